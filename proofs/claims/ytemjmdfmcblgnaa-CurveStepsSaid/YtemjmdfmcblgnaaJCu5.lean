/- Package curve, walked: slices.Collect of a line's runs. -/
import Derived.Test.YtemjmdfmcblgnaaJCu3
import Derived.Test.YtemjmdfmcblgnaaJL15
import Derived.Deep.RegionHeld
import Derived.Test.YtemjmdfmcblgnaaJCurR
import Derived.Test.YtemjmdfmcblgnaaJRef14b
namespace Go.Proofs.Ytemjmdfmcblgnaa.P
end Go.Proofs.Ytemjmdfmcblgnaa.P
namespace Go.Proofs.Ytemjmdfmcblgnaa.Mm
end Go.Proofs.Ytemjmdfmcblgnaa.Mm
namespace Go.Proofs.Ytemjmdfmcblgnaa.R6
end Go.Proofs.Ytemjmdfmcblgnaa.R6
namespace Go.Proofs.Ytemjmdfmcblgnaa.R14
end Go.Proofs.Ytemjmdfmcblgnaa.R14
namespace Go.Proofs.Ytemjmdfmcblgnaa.R15
end Go.Proofs.Ytemjmdfmcblgnaa.R15
namespace Go.Proofs.Ytemjmdfmcblgnaa.L14
end Go.Proofs.Ytemjmdfmcblgnaa.L14
namespace Go.Proofs.Ytemjmdfmcblgnaa.Cc
open Go.RowKit Go.Sort Go.Shelf P Mm R6 R14 R15 L14
attribute [local go_sem] Oper.semAt_some
/-- Between two rounds: what has come lies in the variable's own row. -/
structure GA (w : World) (n0 KO : Nat) (pre : List (Rn Int)) (W : World) : Prop where
  out : ∃ v, Boxed W KO 29 v ∧ W.ownsRow n0 51 3 v pre.length (pre.flatMap rnC) ∧ True
  bel : Below w.heap.size w W
  size : n0 ≤ W.heap.size
theorem ga_own {w : World} {n0 KO : Nat} {B : Nat} (hB : w.heap.size ≤ B) : OwnFrom B (GA w n0 KO) := by
  intro pre A C row h hg hr
  have o1 := (Own.from (holdsRow_own n0 KO 29 51 3 (fun pre : List (Rn Int) => pre.length) (fun pre => pre.flatMap rnC) (fun _ _ => True)) B) pre A C row h.out hg hr
  have o3 := (ownFrom_below (β := Unit) (w₀ := w) (Nat.le_refl w.heap.size) hB) () A C row h.bel hg hr
  exact ⟨o1, o3, Nat.le_trans h.size hg.size⟩
theorem appended3 {W w1 : World} {n₀ m B : Nat} {t e : TypeId} {size : Nat} {v v' : Value} {k k' : Nat} {xs ys : List Value} {tmp : Obj}
    (hv : Boxed W B t v) (hte : t ≠ e) (hrow : W.ownsRow n₀ e size v k xs) (hn₀ : n₀ ≤ W.heap.size) (hm : m ≤ B) (hmn : m ≤ n₀)
    (hown' : w1.ownsRow n₀ e size v' k' ys) (hgrow : (W.alloc tmp).grownBy w1 v.ownBlock) :
    Boxed w1 B t v ∧ Boxed (w1.setCell ⟨B, 0, none⟩ v') B t v' ∧ (w1.setCell ⟨B, 0, none⟩ v').ownsRow n₀ e size v' k' ys ∧ KeepsOthers W (w1.setCell ⟨B, 0, none⟩ v') ∧ Below m W (w1.setCell ⟨B, 0, none⟩ v') ∧
      (∀ j, j < n₀ → j ≠ B → (w1.setCell ⟨B, 0, none⟩ v').heap[j]? = W.heap[j]?) ∧ W.heap.size ≤ (w1.setCell ⟨B, 0, none⟩ v').heap.size := by
  have hv1 : Boxed w1 B t v := (hv.alloc tmp).kept hgrow (hv.not_row hte hrow)
  have own : ∀ j, v.ownBlock = some j → n₀ ≤ j := fun j ej => by
    rcases hrow.2 with ⟨rfl, _⟩ | ⟨g, cap, cur, rfl, hb, _, _⟩
    · simp [Value.ownBlock] at ej
    · obtain rfl : g = j := by simpa [Value.ownBlock] using ej
      exact hb
  have sz : W.heap.size ≤ (w1.setCell ⟨B, 0, none⟩ v').heap.size := by
    have h1 := hgrow.size
    simp at h1 ⊢
    omega
  refine ⟨hv1, hv1.set v', hown'.kept (grownBy_setCell' w1 B v') (.inr (hv1.not_row hte hown').symm), ?_, ?_, ?_, sz⟩
  · refine ((KeepsOthers.alloc W tmp).trans (KeepsOthers.of_grownBy hgrow fun j o ej hj => ?_)).trans (KeepsOthers.setCell _ _ _)
    rcases (hrow.alloc tmp).2 with ⟨rfl, _⟩ | ⟨g, cap, cur, rfl, _, hgb, _⟩
    · simp [Value.ownBlock] at ej
    · obtain rfl : g = j := by simpa [Value.ownBlock] using ej
      rw [hgb] at hj; cases hj; rfl
  · exact (((Below.refl m W).alloc (Nat.le_trans hmn hn₀) tmp).grown hgrow (by simp; omega) fun j ej => Nat.le_trans hmn (own j ej)).setCell (p := ⟨B, 0, none⟩) hm v'
  · intro j hj hne
    rw [Below.heap_setCell w1 ⟨B, 0, none⟩ v' j hne, hgrow.block j (by simp; omega) (fun e => by have := own j e.symm; omega)]
    exact Below.heap_alloc W tmp j (by omega)
set_option maxHeartbeats 8000000 in
set_option maxRecDepth 100000 in
theorem appendseq_any (R : List (Rn Int)) (N : Nat) (gf : Nat) (lb : Array Value) (a b : Nat) (ta : Option Addr) (w : World) (HN : N = R.length) (SN : N ≤ 100000) (SI : ∀ s ∈ R, I64 s.a ∧ I64 s.b ∧ I64 s.v)
    (hb : b ≤ w.heap.size) (taL : R ≠ [] → ∀ ad : Addr, ta = some ad → ad.block < w.heap.size)
    (hen : ∀ args W, (callFunc gf args).run Try.prog W = .ok (.enter gf args) W)
    (hseq : ∀ (n : Nat), 1 ≤ n → ∀ Kp : World → World → Prop, (∀ A B, Kp A B → KeepL a b ta (R ≠ []) A B) → SeqStopsK Fence.wide n Try.prog gf lb encR Kp (fun ys => ys = R) (fun pre => pre <+: R) N w) :
    Calls Try.prog 32 #[.slice none 0 0, .func (.func gf) #[] lb] w fun e w' => (∃ ao cap, e = .returned (.slice ao R.length cap) ∧ Row tRn w' ao R.length cap R) ∧ Below w.heap.size w w' := by
  refine (callsIn_wide (n := 5)).1 ?_
  have hro : Fence.wide.round = none := rfl
  obtain ⟨w1, hw1⟩ : ∃ W, W = w.alloc (.cells #[.slice none 0 0] 29) := ⟨_, rfl⟩
  obtain ⟨KO, hKO⟩ : ∃ k, k = w.heap.size := ⟨_, rfl⟩
  have b1 : Below w.heap.size w w1 := by rw [hw1]; exact (Below.refl _ w).alloc (Nat.le_refl _) _
  have z1 : w1.heap.size = w.heap.size + 1 := by rw [hw1]; simp
  have bO1 : Boxed w1 KO 29 (.slice none 0 0) := by
    rw [hw1, hKO]
    exact Boxed.new w 29 (.slice none 0 0)
  obtain ⟨i0, hi0, hz0, hz1, hz2⟩ := info_parts info_lrun
  refine callsIn_of_wp_marks Try.func32 rfl trivial ?_ hro
  simp only [Try.ntmps32, List.size_toArray, List.length_cons, List.length_nil, Nat.reduceAdd, Nat.reduceSub, Array.replicate_succ, Array.replicate_zero, List.push_toArray, List.append_toArray, List.nil_append, List.cons_append]
  gi_wp2_with fail
  rw [← hw1]
  rw [← hKO]
  obtain ⟨n0, hn0⟩ : ∃ n, n = w1.heap.size := ⟨_, rfl⟩
  have K1 : w.heap.size ≤ n0 := by omega
  have K2 : KO < n0 := by omega
  have K3 : w.heap.size ≤ KO := by omega
  have K6 : n0 ≤ w1.heap.size := by omega
  have K7 : w.heap.size = KO := by omega
  have TA := hid taL
  have HK7 := hid K7
  have SEQ := hid hseq
  have HB := hid hb
  clear hw1 hKO hn0 z1 taL K7 hseq hb
  gi_wp2
  refine wpIn_rangeFunc_ownH hro (by omega : 1 ≤ 5) (gf := gf) (lb := lb) rfl trivial hen
    (SEQ.out 4 (by omega) (fun A B => ∀ j, j < n0 → j ≠ KO → B.heap[j]? = A.heap[j]?) (fun A B h j hj => h j (by
      rcases hj with ⟨_, h2⟩ | ⟨hne, ad, e, rfl⟩
      · have := HB.out; omega
      · have := TA.out hne ad e; omega) (by
      rcases hj with ⟨_, h2⟩ | ⟨hne, ad, e, rfl⟩
      · have := HB.out; have := HK7.out; omega
      · have := TA.out hne ad e; have := HK7.out; omega)))
    (fun h k j hj hne => (k j hj hne).trans (h j hj hne)) (fun W l o o' hl _ _ _ j hj hne => World.putObj_heap_other (by omega)) b1 (fun _ => rfl)
    (GA w n0 KO)
    (fun _ _ _ => False)
    (ga_own (by omega))
    (fun c pre' A C row h hg hr => h.elim)
    ⟨⟨_, bO1, World.ownsRow_nil _ _ _ _, trivial⟩, b1, by omega⟩
    (fun s a' W => ∃ Bx, KO < Bx ∧ Cells W Bx 51 [.int .i64 s.a, .int .i64 s.b, .int .i64 s.v] ∧ a' = { tmps := #[.slice none 0 0, .func (.func gf) #[] lb, .pointer (some ⟨KO, 0, none⟩), undef, .slice none 0 0, .pointer (some ⟨Bx, 0, none⟩), .func (.func gf) #[] lb, .agg #[.int .i64 s.a, .int .i64 s.b, .int .i64 s.v], undef, undef, undef, undef, undef], defers := [] })
    (fun s a' u A C row h hg hr => by
      obtain ⟨Bx, h1, h2, h3⟩ := h
      exact ⟨Bx, h1, cells_own Bx _ _ _ u A C row h2 hg hr, h3⟩)
    ?assign ?body ?done ?stop
  case assign =>
    intro l pre s W K hI hK
    unfold encR
    gi_wp2
    exact hK _ _ ((KeepsOthers.alloc _ _).from _) (fun j hj hne => Below.heap_alloc W _ j (by have := hI.size; omega)) ((ga_own (B := W.heap.size) hI.bel.size).alloc _ hI) ⟨W.heap.size, by have := hI.size; omega, World.alloc_heap_new W _, rfl⟩
  case body =>
    rintro l pre s a' W hl hrr hI ⟨Bx, hBx, hC, rfl⟩ hlt
    obtain ⟨v, hv, hrow, _⟩ := hI.out
    obtain ⟨ao3, cap3, rfl⟩ : ∃ ao cap, v = .slice ao pre.length cap := by
      rcases hrow.2 with ⟨h1, h2⟩ | ⟨g, cap, cur, h1, _⟩
      · exact ⟨none, 0, by rw [h1, h2]⟩
      · exact ⟨_, cap, h1⟩
    have hc := hv.cell
    have hs0 : W.cell? ⟨Bx, 0, none⟩ = some (.int .i64 s.a) := hC.cell 0
    have hs1 : W.cell? ⟨Bx, 1, none⟩ = some (.int .i64 s.b) := hC.cell 1
    have hs2 : W.cell? ⟨Bx, 2, none⟩ = some (.int .i64 s.v) := hC.cell 2
    have hlB := hC.lt
    have few : pre.length < N := hlt
    have HI := hid hI
    have HC := hid hC
    have hsz := hI.size
    clear hI hC
    gi_wp2_with (gi_at_builtin; refine wpListIn_append_own _ rfl _ _ 29 rfl n0 51 i0 (.agg #[.int .i64 0, .int .i64 0, .int .i64 0]) 3 24 Try.underlying29 hi0 hz0 hz1 hz2 rfl (by decide) _ _ _ rfl (hrow.alloc _) ⟨W.heap.size, 0, none⟩ 1 1 (rnC s) rfl rfl (news_at W (rnC s) _) (by simp [rnC, Value.oneCell']) (by unfold maxLen; omega) (by omega) (by simp; omega) ?_; intro v' w1 hown' hgrow _; obtain ⟨g', cap', rfl⟩ := ownsRow_succ hown'; obtain ⟨hv1, hv2, hr2, hk2, hb2, hk3, hsz2⟩ := appended3 (m := w.heap.size) hv (by decide) hrow hsz K3 K1 hown' hgrow; have hc1 := hv1.cell; have hf1 := hv1.frozen)
    refine ⟨hk2.from _, hk3, ⟨_, hv2, ?_, trivial⟩, HI.out.bel.trans hb2, Nat.le_trans hsz hsz2⟩
    rw [List.length_append, List.flatMap_append]
    simpa using hr2
  case done =>
    rintro D ys W hD rfl hI hK
    obtain ⟨v, hv, hrow, _⟩ := hI.out
    have hc := hv.cell
    have HI := hid hI
    clear hI
    gi_wp2
    refine ⟨by simp, .inl ⟨_, _, rfl, run_takeDeferred hK, ?_⟩⟩
    refine ⟨_, results_tmp rfl _ _ _, ?_, HI.out.bel.trans (belowK_b (w := w) (Nat.le_refl _) W D _ _ (by have := HI.out.bel.size; omega) hK rfl rfl)⟩
    obtain ⟨ao3, cap3, e, RR⟩ := row_own (n := 3) (cells := rnC) (ok := fun s : Rn Int => I64 s.a ∧ I64 s.b ∧ I64 s.v) (hn := fun _ => rfl) (ownsRow_putObj hrow _ hK rfl) SI
    exact ⟨ao3, cap3, by rw [← e]; rfl, RR⟩
  case stop =>
    rintro D c pre' W hD hSp hIx hK
    exact hIx.elim
theorem collect_any (R : List (Rn Int)) (N : Nat) (gf : Nat) (lb : Array Value) (a b : Nat) (ta : Option Addr) (w : World) (HN : N = R.length) (SN : N ≤ 100000) (SI : ∀ s ∈ R, I64 s.a ∧ I64 s.b ∧ I64 s.v)
    (hb : b ≤ w.heap.size) (taL : R ≠ [] → ∀ ad : Addr, ta = some ad → ad.block < w.heap.size)
    (hen : ∀ args W, (callFunc gf args).run Try.prog W = .ok (.enter gf args) W)
    (hseq : ∀ (n : Nat), 1 ≤ n → ∀ Kp : World → World → Prop, (∀ A B, Kp A B → KeepL a b ta (R ≠ []) A B) → SeqStopsK Fence.wide n Try.prog gf lb encR Kp (fun ys => ys = R) (fun pre => pre <+: R) N w) :
    Calls Try.prog 20 #[.func (.func gf) #[] lb] w fun e w' => (∃ ao cap, e = .returned (.slice ao R.length cap) ∧ Row tRn w' ao R.length cap R) ∧ Below w.heap.size w w' := by
  have cA := hid (appendseq_any R N gf lb a b ta w HN SN SI hb taL hen hseq)
  clear HN SN SI hb taL hen hseq
  go_enter Try.func20, Try.ntmps20
  go_wp2_with fail
  refine cA.out.mono ?_
  rintro e w1 ⟨⟨ao, cap, rfl, R1⟩, b1⟩
  have RR := hid R1
  have B1 := hid b1
  clear b1 R1 cA
  go_wp2
  go_ret
  exact ⟨⟨ao, cap, rfl, RR.out⟩, B1.out⟩
end Go.Proofs.Ytemjmdfmcblgnaa.Cc
/- Regions that draw their order and end with a store: what is asked of the world holds until that store. No program is named here. -/
namespace Go.Proofs.Ytemjmdfmcblgnaa.Hu
open Go
section
variable {P : Program} {ops : Array Oper} {Q : Exit → Act → World → Prop} {md : Region.Mode} {S : World → Prop} {st : Nat}
/-- Whatever order is picked from here on, and S holds behind every operation, as long as number st has not come up. -/
def wpAnyU (P : Program) (md : Region.Mode) (ops : Array Oper) (Q : Exit → Act → World → Prop) (S : World → Prop) (st : Nat) : Nat → Array Bool → Act → World → Prop
  | 0, listed, a, w => Region.ready md ops listed = [] ∧ Q .normal a w
  | fuel + 1, listed, a, w =>
    (Region.ready md ops listed = [] → Q .normal a w) ∧
    ∀ i ∈ Region.ready md ops listed, wpOp P ops Q i (fun a' w' => ((listed.setIfInBounds i true).getD st true = false → S w') ∧ wpAnyU P md ops Q S st fuel (listed.setIfInBounds i true) a' w') a w
theorem wpAny_of_until : ∀ (fuel : Nat) (listed : Array Bool) (a : Act) (w : World), wpAnyU P md ops Q S st fuel listed a w → wpAny P md ops Q fuel listed a w
  | 0, _, _, _, h => h
  | fuel + 1, _, _, _, h => ⟨h.1, fun i hi => wpOp_mono (fun a' w' h' => wpAny_of_until fuel _ a' w' h'.2) (h.2 i hi)⟩
/-- Whether number s waits for number i, through others maybe. -/
def waitsB (md : Region.Mode) (ops : Array Oper) : Nat → Nat → Nat → Bool
  | 0, _, _ => false
  | n + 1, s, i => match ops[s]? with
    | some o => o.after.any fun e => Region.binds md e && (e.on == i || waitsB md ops n e.on i)
    | none => false
/-- What has come up has what it waits for behind it. -/
def Closed (md : Region.Mode) (ops : Array Oper) (listed : Array Bool) : Prop := ∀ k o, ops[k]? = some o → listed.getD k true = true → ∀ e ∈ o.after, Region.binds md e = true → listed.getD e.on true = true
def closedB (md : Region.Mode) (ops : Array Oper) (listed : Array Bool) : Bool := (List.range ops.size).all fun k => !(listed.getD k true) || match ops[k]? with
  | some o => o.after.all fun e => !(Region.binds md e) || listed.getD e.on true
  | none => true
theorem closed_of {listed : Array Bool} (h : closedB md ops listed = true) : Closed md ops listed := by
  intro k o ho hk e he hb
  unfold closedB at h
  have hlt : k < ops.size := (Array.getElem?_eq_some_iff.1 ho).1
  have := (List.all_eq_true.1 h) k (List.mem_range.2 hlt)
  rw [hk, ho] at this
  simp only [Bool.not_true, Bool.false_or] at this
  have := (Array.all_eq_true_iff_forall_mem.1 this) e he
  rw [hb] at this
  simpa using this
theorem waits_listed {listed : Array Bool} {i : Nat} (hc : Closed md ops listed) : ∀ (n s : Nat), waitsB md ops n s i = true → listed.getD s true = true → listed.getD i true = true
  | 0, _, h, _ => by cases h
  | n + 1, s, h, hs => by
    unfold waitsB at h
    split at h
    · rename_i o ho
      obtain ⟨k, hk, e⟩ := Array.any_eq_true.1 h
      rw [Bool.and_eq_true, Bool.or_eq_true, beq_iff_eq] at e
      have := hc s o ho hs _ (Array.getElem_mem hk) e.1
      rcases e.2 with e2 | e2
      · rwa [e2] at this
      · exact waits_listed hc n _ e2 this
    · cases h
theorem hall_true {listed : Array Bool} {i : Nat} (h : listed.getD i false = true) : listed.getD i true = true := by
  rcases Nat.lt_or_ge i listed.size with h' | h'
  · simp [h'] at h ⊢; exact h
  · simp [Array.getElem?_eq_none h'] at h
theorem unlisted_ne {listed : Array Bool} {n i j : Nat} (hc : Closed md ops listed) (hw : waitsB md ops n st i = true) (hi : listed.getD i true = false) (hj : j ∈ Region.ready md ops listed) : j ≠ st := by
  intro e
  subst e
  obtain ⟨_, oj, hoj, hall⟩ := mem_ready.1 hj
  cases n with
  | zero => cases hw
  | succ n =>
    unfold waitsB at hw
    rw [hoj] at hw
    obtain ⟨k, hk, e⟩ := Array.any_eq_true.1 hw
    rw [Bool.and_eq_true, Bool.or_eq_true, beq_iff_eq] at e
    have h1 := hall_true (hall _ (Array.getElem_mem hk) e.1)
    rcases e.2 with e2 | e2
    · rw [e2, hi] at h1
      cases h1
    · have := waits_listed hc n _ e2 h1
      rw [hi] at this
      cases this
theorem closed_set {listed : Array Bool} {j : Nat} (hc : Closed md ops listed) (hj : j ∈ Region.ready md ops listed) : Closed md ops (listed.setIfInBounds j true) := by
  intro k o ho hk e he hb
  obtain ⟨_, oj, hoj, hall⟩ := mem_ready.1 hj
  have up : ∀ x, listed.getD x true = true → (listed.setIfInBounds j true).getD x true = true := fun x hx => by
    by_cases e : j = x
    · subst e
      rcases Nat.lt_or_ge j listed.size with h' | h'
      · simp [h']
      · simp [h']
    · rw [getD_set_ne true e]; exact hx
  by_cases e2 : k = j
  · subst e2
    rw [hoj] at ho
    obtain rfl := Option.some.inj ho
    exact up _ (hall_true (hall e he hb))
  · rw [getD_set_ne true (Ne.symm e2)] at hk
    exact up _ (hc k o ho hk e he hb)
theorem wpAnyU_first {i : Nat} {oi : Oper} {v : Value} (hi : ops[i]? = some oi) (hsel : ∀ (j : Nat) (o : Oper) cs b, ops[j]? = some o → o.op ≠ .select cs b)
    (hQ : ∀ c a w, Q (.panic c) (a.put oi.dst v) w → Q (.panic c) a w) {n : Nat} (hw : waitsB md ops n st i = true) (hne : i ≠ st) :
    ∀ (fuel : Nat) (listed : Array Bool) (a : Act) (w : World),
      (∀ j oj, ops[j]? = some oj → j ≠ i → listed.getD j true = false → (∀ e ∈ oj.after, Region.binds md e = true → e.on ≠ i) → oi.apart ops oj = true) →
      i ∈ Region.ready md ops listed → YieldsIf P ops S oi v a → listed.getD st true = false → Closed md ops listed → S w →
      wpAnyU P md ops Q S st fuel (listed.setIfInBounds i true) (a.put oi.dst v) w → wpAnyU P md ops Q S st (fuel + 1) listed a w := by
  intro fuel
  induction fuel with
  | zero =>
    intro listed a w hfree hr hy hu hcl hS H
    refine ⟨fun h => (by rw [h] at hr; cases hr), fun j hj => ?_⟩
    by_cases hji : j = i
    · subst hji; exact hy.wpOp hi hS ⟨fun _ => hS, H⟩
    · have := ready_mono hj hji
      rw [H.1] at this
      cases this
  | succ fuel ih =>
    intro listed a w hfree hr hy hu hcl hS H
    refine ⟨fun h => (by rw [h] at hr; cases hr), fun j hj => ?_⟩
    by_cases hji : j = i
    · subst hji; exact hy.wpOp hi hS ⟨fun _ => hS, H⟩
    · have h1 := H.2 j (ready_mono hj hji)
      obtain ⟨hjun, oj, hoj, hall⟩ := mem_ready.1 hj
      have hnot : ∀ e ∈ oj.after, Region.binds md e = true → e.on ≠ i := fun e he hb heq => by
        have h1 := hall e he hb
        have h0 := (mem_ready.1 hr).1
        rw [heq] at h1
        rcases Nat.lt_or_ge i listed.size with h' | h'
        · simp [h'] at h0 h1; rw [h0] at h1; cases h1
        · simp [Array.getElem?_eq_none h'] at h1
      have hjs : j ≠ st := unlisted_ne hcl hw (mem_ready.1 hr).1 hj
      have hu' : (listed.setIfInBounds j true).getD st true = false := by rw [getD_set_ne true hjs]; exact hu
      have hu2 : ((listed.setIfInBounds i true).setIfInBounds j true).getD st true = false := by rw [getD_set_ne true hjs, getD_set_ne true hne]; exact hu
      have h2 := wpOp_putIf hoj (hfree j oj hoj hji hjun hnot) (fun cs b => hsel i oi cs b hi) (fun cs b => hsel j oj cs b hoj) hQ hy h1
      have hfree' : ∀ k ok, ops[k]? = some ok → k ≠ i → (listed.setIfInBounds j true).getD k true = false →
          (∀ e ∈ ok.after, Region.binds md e = true → e.on ≠ i) → oi.apart ops ok = true := fun k ok hk hki hun hno => by
        refine hfree k ok hk hki ?_ hno
        by_cases hjk : j = k
        · subst hjk; exact hjun
        · rw [getD_set_ne true hjk] at hun; exact hun
      refine wpOp_mono (fun a' w' h3 => ⟨fun _ => h3.2.1 hu2, ih (listed.setIfInBounds j true) a' w' hfree' (ready_mono hr (Ne.symm hji)) h3.1 hu' (closed_set hcl hj) (h3.2.1 hu2) ?_⟩) h2
      rw [Array.setIfInBounds_comm _ _ hji]
      exact h3.2.2
theorem wpAnyU_take {i : Nat} {oi : Oper} {v : Value} {fuel : Nat} {listed : Array Bool} {a : Act} {w : World} (hi : ops[i]? = some oi)
    (hs : Region.noSelect ops = true) (hf : Region.free md ops listed i = true) (hr : (Region.ready md ops listed).contains i = true)
    (hw : (waitsB md ops ops.size st i && (i != st && (!(listed.getD st true) && closedB md ops listed))) = true)
    (hQ : ∀ c a w, Q (.panic c) (a.put oi.dst v) w → Q (.panic c) a w) (hy : YieldsIf P ops S oi v a) (hS : S w)
    (h : wpAnyU P md ops Q S st fuel (listed.setIfInBounds i true) (a.put oi.dst v) w) : wpAnyU P md ops Q S st (fuel + 1) listed a w := by
  rw [Bool.and_eq_true, Bool.and_eq_true, Bool.and_eq_true, bne_iff_ne] at hw
  obtain ⟨w1, w2, w3, w4⟩ := hw
  exact wpAnyU_first hi (Region.noSelect_spec hs) hQ w1 w2 fuel listed a w (Region.free_spec hi hf) (by simpa using hr) hy (by simpa using w3) (closed_of w4) hS h
def AllReadyU (P : Program) (md : Region.Mode) (ops : Array Oper) (Q : Exit → Act → World → Prop) (S : World → Prop) (st : Nat) (fuel : Nat) (listed : Array Bool) (a : Act) (w : World) (rs : List Nat) : Prop :=
  ∀ i ∈ rs, wpOp P ops Q i (fun a' w' => ((listed.setIfInBounds i true).getD st true = false → S w') ∧ wpAnyU P md ops Q S st fuel (listed.setIfInBounds i true) a' w') a w
theorem AllReadyU.nil {fuel : Nat} {listed : Array Bool} {a : Act} {w : World} : AllReadyU P md ops Q S st fuel listed a w [] := fun _ h => by cases h
theorem AllReadyU.cons {fuel : Nat} {listed : Array Bool} {a : Act} {w : World} {i : Nat} {o : Oper} {rs : List Nat} (ho : ops[i]? = some o)
    (h : ∀ K' : Act → World → Prop, Shut (∀ a w, S w → (S w → wpAnyU P md ops Q S st fuel (listed.setIfInBounds i true) a w) → K' a w) → if Region.wanted o (yielded ops a.tmps) = true then Oper.wp P o a w K' Q else K' (a.put o.dst undef) w)
    (hs : AllReadyU P md ops Q S st fuel listed a w rs) : AllReadyU P md ops Q S st fuel listed a w (i :: rs) := fun j hj => by
  rcases List.mem_cons.1 hj with rfl | hj
  · exact wpOp_step ho (fun K' hK => h K' (fun a w hS hW => hK a w ⟨fun _ => hS, hW hS⟩))
  · exact hs j hj
/-- The store itself: nothing is asked behind it. -/
theorem AllReadyU.last {fuel : Nat} {listed : Array Bool} {a : Act} {w : World} {i : Nat} {o : Oper} {rs : List Nat} (ho : ops[i]? = some o) (hst : (listed.setIfInBounds i true).getD st true = true)
    (h : ∀ K' : Act → World → Prop, Shut (∀ a w, wpAnyU P md ops Q S st fuel (listed.setIfInBounds i true) a w → K' a w) → if Region.wanted o (yielded ops a.tmps) = true then Oper.wp P o a w K' Q else K' (a.put o.dst undef) w)
    (hs : AllReadyU P md ops Q S st fuel listed a w rs) : AllReadyU P md ops Q S st fuel listed a w (i :: rs) := fun j hj => by
  rcases List.mem_cons.1 hj with rfl | hj
  · exact wpOp_step ho (fun K' hK => h K' (fun a w hW => hK a w ⟨fun h0 => (by rw [hst] at h0; cases h0), hW⟩))
  · exact hs j hj
theorem wpAnyU_ready {rs : List Nat} {fuel : Nat} {listed : Array Bool} {a : Act} {w : World} (hr : Region.ready md ops listed = rs) (hne : rs ≠ [])
    (h : AllReadyU P md ops Q S st fuel listed a w rs) : wpAnyU P md ops Q S st (fuel + 1) listed a w :=
  ⟨fun h0 => absurd (hr ▸ h0) hne, hr ▸ h⟩
theorem wpAnyU_done {listed : Array Bool} {a : Act} {w : World} (hr : Region.ready md ops listed = []) (h : Q .normal a w) :
    ∀ fuel, wpAnyU P md ops Q S st fuel listed a w
  | 0 => ⟨hr, h⟩
  | _ + 1 => ⟨fun _ => h, by rw [hr]; simp⟩
theorem wp_region_until (st : Nat) {id : Nat} {a : Act} {w : World} (hm : P.follows .mixedOrders = true) (hS : S w.drew)
    (h : S w.drew → wpAnyU P .any ops Q S st ops.size (Array.replicate ops.size false) a w.drew) : (Code.region id ops true).wp P Q a w :=
  wp_region_any hm (wpAny_of_until _ _ _ _ (h hS))
end
end Go.Proofs.Ytemjmdfmcblgnaa.Hu
/- Regions that draw their order and end with a store: the quiet operations one after another, each found by itself. No program is named here. -/
namespace Go.Proofs.Ytemjmdfmcblgnaa.Hu
open Go
section
variable {P : Program} {ops : Array Oper} {Q : Exit → Act → World → Prop} {md : Region.Mode} {S : World → Prop} {st : Nat}
theorem pk (i : Nat) {dst : Option Tmp} {op : Op} {ty : TypeId} {pos : String} {after : Array Edge} {gd : Option (Nat × Bool)} {v : Value} {fuel : Nat} {listed : Array Bool} {a : Act} {w : World} (hy : ∀ w, S w → (execOp a.eval ⟨dst, op, ty, pos, after, gd⟩).run P w = .ok (.value v) w)
    (h : wpAnyU P md ops Q S st fuel (listed.setIfInBounds i true) (a.put dst v) w) (hr : (Region.ready md ops listed).contains i = true := by decide +kernel) (hi : ops[i]? = some ⟨dst, op, ty, pos, after, gd⟩ := by rfl)
    (hwd : Region.wanted ⟨dst, op, ty, pos, after, gd⟩ (yielded ops a.tmps) = true := by rfl)
    (hs : Region.noSelect ops = true := by kernel_rfl) (hf : Region.free md ops listed i = true := by kernel_rfl)
    (hw : (waitsB md ops ops.size st i && (i != st && (!(listed.getD st true) && closedB md ops listed))) = true := by kernel_rfl)
    (hQ : ∀ c a w, Q (.panic c) (a.put dst v) w → Q (.panic c) a w := by exact fun _ _ _ h => h) (hS : S w := by assumption) : wpAnyU P md ops Q S st (fuel + 1) listed a w :=
  wpAnyU_take hi hs hf hr hw hQ (Or.inl ⟨hwd, hy⟩) hS h
end
end Go.Proofs.Ytemjmdfmcblgnaa.Hu
/- Package curve, walked: group. -/
namespace Go.Proofs.Ytemjmdfmcblgnaa.Cc
open Go.RowKit Go.Sort Go.Shelf P Mm R6 R14 R15 L14
attribute [local go_sem] Oper.semAt_some
theorem range3 {w : World} {b o : Nat} {x y z : Value} (h0 : w.cell? ⟨b, o, none⟩ = some x) (h1 : w.cell? ⟨b, o + 1, none⟩ = some y) (h2 : w.cell? ⟨b, o + 2, none⟩ = some z) : w.rangeAt b o [x, y, z] := fun j v hv => by
  rcases j with _ | _ | _ | j
  · obtain rfl : x = v := Option.some.inj hv
    exact h0
  · obtain rfl : y = v := Option.some.inj hv
    exact h1
  · obtain rfl : z = v := Option.some.inj hv
    exact h2
  · simp at hv
set_option maxHeartbeats 4000000 in
set_option maxRecDepth 100000 in
theorem group_any (ps : List (Rn Int)) (ao : Option Addr) (cap : Nat) (w : World) (hr : Row tRn w ao ps.length cap ps) (hne : ps ≠ []) (hn : ps.length ≤ 100000)
    (hv : ∀ r ∈ ps, 0 ≤ r.a ∧ r.a ≤ 100000 ∧ -2305843009213693952 ≤ r.v ∧ r.v ≤ 2305843009213693952) :
    Calls Try.prog 24 #[.slice ao ps.length cap] w fun e w' => e = .returned (.agg #[.int .i64 (hdG ps).f, .int .i64 (hdG ps).v, .int .i64 (hdG ps).w, .int .i64 (hdG ps).r, .int .i64 (hdG ps).c]) ∧ Below w.heap.size w w' := by
  obtain ⟨w1, hw1⟩ : ∃ W, W = w.alloc (.cells (gpC ⟨0, 0, 0, 0, 0⟩).toArray 45) := ⟨_, rfl⟩
  obtain ⟨k1, hk1⟩ : ∃ k, k = w.heap.size := ⟨_, rfl⟩
  have b1 : Below w.heap.size w w1 := by rw [hw1]; exact bel_alloc _ _
  have X1 : Box w1 k1 (gpC ⟨0, 0, 0, 0, 0⟩) := by rw [hw1, hk1]; exact Box.new w _ _
  obtain ⟨p, hp⟩ : ∃ p, ps[0]? = some p := ⟨_, List.getElem?_eq_getElem (List.length_pos_iff.2 hne)⟩
  obtain ⟨n, hnn⟩ : ∃ n, n = ps.length := ⟨_, rfl⟩
  have n0 : 0 < n := by rw [hnn]; exact List.length_pos_iff.2 hne
  have lm := hr.hmax
  have lc := hr.hcap
  have HR := hid (fun (W : World) (b : Below w.heap.size w W) => hr.on b)
  rw [← hnn] at HR lc hn ⊢
  obtain ⟨gb, go', eg, -, p0, p1, p2, -⟩ := rn_at (HR.out w1 b1) hp
  subst eg
  simp only [Nat.zero_mul, Nat.add_zero] at p0 p1 p2
  have HN := hid hnn
  have HP := hid hp
  have HV := hid hv
  have HX := hid (fun (W : World) (b : Below w1.heap.size w1 W) => (⟨X1.on b, bel_on b1 b⟩ : Box W k1 (gpC ⟨0, 0, 0, 0, 0⟩) ∧ Below w.heap.size w W))
  have HK1 := hid (show w.heap.size ≤ k1 ∧ k1 < w1.heap.size by rw [hk1, hw1]; simp)
  have gl : gb < w1.heap.size := Li.cell_lt p0
  have HW := hid (show w1 = w.alloc (.cells #[.int .i64 0, .int .i64 0, .int .i64 0, .int .i64 0, .int .i64 0] 45) from hw1)
  have HK := hid hk1
  have i0 : (0 : Int) < (n : Int) := by omega
  obtain ⟨GR, hGR⟩ : ∃ g, g = hdG ps := ⟨_, rfl⟩
  rw [← hGR]
  have HG := hid hGR
  clear hw1 hk1 b1 X1 hr hne hnn hp hv hGR
  go_enter Try.func24, Try.ntmps24
  go_upto_region 1 with fail
  rw [← HW.out, ← HK.out]
  clear HW HK
  have KS : Hid (∀ w', Below w1.heap.size w1 w' → w'.cell? ⟨gb, go', none⟩ = some (.int .i64 p.a) ∧ w'.cell? ⟨gb, go' + 2, none⟩ = some (.int .i64 p.v)) := hid fun W b => ⟨(b.cell gl).trans p0, (b.cell gl).trans p2⟩
  have G0 : Below w1.heap.size w1 w1.drew := Below.drew (Below.refl _ _)
  refine Hu.wp_region_until (S := fun w' => w'.cell? ⟨gb, go', none⟩ = some (.int .i64 p.a) ∧ w'.cell? ⟨gb, go' + 2, none⟩ = some (.int .i64 p.v)) 10 (by kernel_rfl) ?_ (fun hHeld => ?_)
  · exact KS.out _ G0
  iterate 9
    first | refine Hu.pk (v := ?_) 0 ?_ ?_ | refine Hu.pk (v := ?_) 1 ?_ ?_ | refine Hu.pk (v := ?_) 2 ?_ ?_ | refine Hu.pk (v := ?_) 3 ?_ ?_ | refine Hu.pk (v := ?_) 4 ?_ ?_ | refine Hu.pk (v := ?_) 5 ?_ ?_ | refine Hu.pk (v := ?_) 6 ?_ ?_ | refine Hu.pk (v := ?_) 7 ?_ ?_ | refine Hu.pk (v := ?_) 8 ?_ ?_
    rotate_left
    · intro w hSw
      (try dsimp only at hSw)
      go_simp
      all_goals (try with_reducible rfl)
    try simp only [Act.put, List.setIfInBounds_toArray, List.set_cons_zero, List.set_cons_succ]
  refine Hu.wpAnyU_ready (rs := [9]) (by kernel_rfl) (by simp) ?_
  refine Hu.AllReadyU.cons (o := (Oper.mk (some 3) (Op.alloc _) _ _ _ _)) rfl (fun K hK => ?_) Hu.AllReadyU.nil
  go_simp
  obtain ⟨k3, hk3⟩ : ∃ k, k = w1.heap.size := ⟨_, rfl⟩
  obtain ⟨wa, hwa⟩ : ∃ W, W = (w1.alloc (.cells #[.int .i64 0, .int .i64 0, .int .i64 0, .int .i64 0, .int .i64 0] 45)).drew := ⟨_, rfl⟩
  have ba : Below w1.heap.size w1 wa := by rw [hwa]; exact Below.drew (bel_alloc _ _)
  have XA : Box wa k3 (gpC ⟨0, 0, 0, 0, 0⟩) := by
    rw [hwa, hk3]
    exact (Box.new w1 (gpC ⟨0, 0, 0, 0, 0⟩) 45).on (Below.drew (Below.refl _ _))
  rw [← hwa, ← hk3]
  have HK3 := hid hk3
  clear hk3
  refine hK.out _ _ ?_ (fun hHeld => ?_)
  · exact KS.out _ ba
  have a0 := XA.cell 0 _ rfl; have a1 := XA.cell 1 _ rfl; have a2 := XA.cell 2 _ rfl; have a3 := XA.cell 3 _ rfl; have a4 := XA.cell 4 _ rfl
  have e0 := XA.free 0; have e1 := XA.free 1; have e2 := XA.free 2; have e3 := XA.free 3; have e4 := XA.free 4
  clear hK K hwa
  try simp only [Act.put, List.setIfInBounds_toArray, List.set_cons_zero, List.set_cons_succ]
  refine Hu.wpAnyU_ready (rs := [10]) (by kernel_rfl) (by simp) ?_
  refine Hu.AllReadyU.last (o := (Oper.mk none (Op.store _ _ _) _ _ _ _)) rfl (by kernel_rfl) (fun K hK => ?_) Hu.AllReadyU.nil
  go_simp
  obtain ⟨wb, hwb⟩ : ∃ W, W = ((((wa.setCell ⟨k3, 0, none⟩ (.int .i64 p.a)).setCell ⟨k3, 1, none⟩ (.int .i64 p.v)).setCell ⟨k3, 2, none⟩ (.int .i64 0)).setCell ⟨k3, 3, none⟩ (.int .i64 0)).setCell ⟨k3, 4, none⟩ (.int .i64 1) := ⟨_, rfl⟩
  have XB : Box wb k3 (gpC ⟨p.a, p.v, 0, 0, 1⟩) := by rw [hwb]; exact (((((XA.set 0 _).set 1 _).set 2 _).set 3 _).set 4 _)
  have bb : Below w1.heap.size w1 wb := by
    have h : w1.heap.size ≤ k3 := by rw [HK3.out]; exact Nat.le_refl _
    rw [hwb]
    exact ((((ba.setCell (p := ⟨k3, 0, none⟩) h _).setCell (p := ⟨k3, 1, none⟩) h _).setCell (p := ⟨k3, 2, none⟩) h _).setCell (p := ⟨k3, 3, none⟩) h _).setCell (p := ⟨k3, 4, none⟩) h _
  rw [← hwb]
  refine hK.out _ _ ?_
  clear hK K hHeld KS G0 hwb ba XA a0 a1 a2 a3 a4 e0 e1 e2 e3 e4 p0 p1 p2 i0
  refine Hu.wpAnyU_done (by kernel_rfl) ?_ _
  try dsimp only [Act.put]
  have HB := hid bb
  have HXB := hid XB
  clear bb XB
  by_cases h1 : n = 1
  · have zn : ((n : Int) == 1) = true := by rw [beq_iff_eq]; omega
    have E := hid (show GR = ⟨p.a, p.v, 0, 0, 1⟩ by rw [HG.out]; exact hd_one HP.out (by rw [← HN.out]; exact h1))
    clear h1
    obtain ⟨Z1, BW⟩ := HX.out wb HB.out
    have d0 := HXB.out.cell 0 _ rfl; have d1 := HXB.out.cell 1 _ rfl; have d2 := HXB.out.cell 2 _ rfl; have d3 := HXB.out.cell 3 _ rfl; have d4 := HXB.out.cell 4 _ rfl; have ld := HXB.out.lt
    have z0 := Z1.cell 0 _ rfl; have z1 := Z1.cell 1 _ rfl; have z2 := Z1.cell 2 _ rfl; have z3 := Z1.cell 3 _ rfl; have z4 := Z1.cell 4 _ rfl; have lz := Z1.lt
    have f0 := Z1.free 0; have f1 := Z1.free 1; have f2 := Z1.free 2; have f3 := Z1.free 3; have f4 := Z1.free 4
    have X7 := hid (show Box (((((wb.setCell ⟨k1, 0, none⟩ (.int .i64 p.a)).setCell ⟨k1, 1, none⟩ (.int .i64 p.v)).setCell ⟨k1, 2, none⟩ (.int .i64 0)).setCell ⟨k1, 3, none⟩ (.int .i64 0)).setCell ⟨k1, 4, none⟩ (.int .i64 1)) k1 (gpC ⟨p.a, p.v, 0, 0, 1⟩) from (((((Z1).set 0 _).set 1 _).set 2 _).set 3 _).set 4 _)
    have BF := hid ((((((BW).setCell (p := ⟨k1, 0, none⟩) HK1.out.1 (.int .i64 p.a)).setCell (p := ⟨k1, 1, none⟩) HK1.out.1 (.int .i64 p.v)).setCell (p := ⟨k1, 2, none⟩) HK1.out.1 (.int .i64 0)).setCell (p := ⟨k1, 3, none⟩) HK1.out.1 (.int .i64 0)).setCell (p := ⟨k1, 4, none⟩) HK1.out.1 (.int .i64 1))
    clear Z1 BW HR HV
    go_wp2
    refine bodyPost_ret (v := .agg #[.int .i64 p.a, .int .i64 p.v, .int .i64 0, .int .i64 0, .int .i64 1]) ?_ rfl ⟨by rw [E.out], BF.out⟩
    exact Md.results_mid rfl _ _ k1 (gpC ⟨p.a, p.v, 0, 0, 1⟩) _ rfl (fun j u h => by rw [Nat.zero_add]; exact X7.out.cell j u h) Try.underlying45 rfl (by kernel_rfl)
  have zn : ((n : Int) == 1) = false := by rw [beq_eq_false_iff_ne]; omega
  obtain ⟨q, hq⟩ : ∃ q, ps[1]? = some q := ⟨_, List.getElem?_eq_getElem (by have := HN.out; omega)⟩
  obtain ⟨gb', go2, eg, -, p0, p1, p2, -⟩ := rn_at (HR.out w1 (HX.out w1 (Below.refl _ _)).2) HP.out
  simp only [Option.some.injEq, Addr.mk.injEq, and_true] at eg
  obtain ⟨rfl, rfl⟩ := eg
  obtain ⟨gb', go2, eg, -, q0, q1, q2, -⟩ := rn_at (HR.out w1 (HX.out w1 (Below.refl _ _)).2) hq
  simp only [Option.some.injEq, Addr.mk.injEq, and_true] at eg
  obtain ⟨rfl, rfl⟩ := eg
  simp only [Nat.zero_mul, Nat.add_zero] at p0 p1 p2
  rw [Nat.one_mul] at q0 q1 q2
  obtain ⟨v1, v2, v3, v4⟩ := HV.out p (List.mem_of_getElem? HP.out)
  obtain ⟨u1, u2, u3, u4⟩ := HV.out q (List.mem_of_getElem? hq)
  have cS : Hid (∀ W, Calls Try.prog 35 #[.agg #[.int .i64 p.a, .int .i64 p.b, .int .i64 p.v], .agg #[.int .i64 q.a, .int .i64 q.b, .int .i64 q.v]] W fun e w' => e = .returned (.tuple #[.int .i64 (q.a - p.a), .int .i64 (q.v - p.v)]) ∧ Below W.heap.size W w') := hid fun W => by
    have := step_any p q W
    rwa [wrap_l (by unfold I64; omega), wrap_l (by unfold I64; omega)] at this
  obtain ⟨DA, hDA⟩ : ∃ D, D = q.a - p.a := ⟨_, rfl⟩
  obtain ⟨DV, hDV⟩ : ∃ D, D = q.v - p.v := ⟨_, rfl⟩
  rw [← hDA, ← hDV] at cS
  have HDA := hid hDA
  have HDV := hid hDV
  have HQ := hid hq
  have KS : Hid (∀ w', Below w1.heap.size w1 w' → w'.rangeAt gb go' [.int .i64 p.a, .int .i64 p.b, .int .i64 p.v] ∧ w'.rangeAt gb (go' + 3) [.int .i64 q.a, .int .i64 q.b, .int .i64 q.v]) := hid fun W b => ⟨range3 ((b.cell gl).trans p0) ((b.cell gl).trans p1) ((b.cell gl).trans p2), range3 ((b.cell gl).trans q0) ((b.cell gl).trans q1) ((b.cell gl).trans q2)⟩
  have NB : gb ≠ k3 := by have := HK3.out; omega
  have i0 : (0 : Int) < (n : Int) := by omega
  have i1 : (1 : Int) < (n : Int) := by omega
  clear v1 v2 v3 v4 u1 u2 u3 u4 hDA hDV hq p0 p1 p2 q0 q1 q2
  go_upto_region 4 with fail
  have G0 : Below w1.heap.size w1 wb.drew := Below.drew HB.out
  have GD : Below wb.heap.size wb wb.drew := Below.drew (Below.refl _ _)
  refine Hu.wp_region_until (S := fun w' => w'.rangeAt gb go' [.int .i64 p.a, .int .i64 p.b, .int .i64 p.v] ∧ w'.rangeAt gb (go' + 3) [.int .i64 q.a, .int .i64 q.b, .int .i64 q.v]) 13 (by kernel_rfl) ?_ (fun hHeld => ?_)
  · exact KS.out _ G0
  iterate 2
    first | refine Hu.pk (v := ?_) 0 ?_ ?_ | refine Hu.pk (v := ?_) 1 ?_ ?_
    rotate_left
    · intro w hSw
      (try dsimp only at hSw)
      go_simp
      all_goals (try with_reducible rfl)
    try simp only [Act.put, List.setIfInBounds_toArray, List.set_cons_zero, List.set_cons_succ]
  refine Hu.wpAnyU_take (i := 2) (oi := (Oper.mk (some 23) (Op.load 51 (Operand.tmp 22)) _ _ _ _)) (v := _) rfl (by kernel_rfl) (by kernel_rfl) (by kernel_rfl) (by kernel_rfl) (fun _ _ _ h => h) (yieldsIf_load_mid (by rfl) _ _ rfl gb go' rfl [.int .i64 p.a, .int .i64 p.b, .int .i64 p.v] _ (fun w hSw => hSw.1) Try.underlying51 rfl (by kernel_rfl)) (by assumption) ?_
  try simp only [Act.put, List.setIfInBounds_toArray, List.set_cons_zero, List.set_cons_succ]
  iterate 2
    first | refine Hu.pk (v := ?_) 3 ?_ ?_ | refine Hu.pk (v := ?_) 4 ?_ ?_
    rotate_left
    · intro w hSw
      (try dsimp only at hSw)
      go_simp
      all_goals (try with_reducible rfl)
    try simp only [Act.put, List.setIfInBounds_toArray, List.set_cons_zero, List.set_cons_succ]
  refine Hu.wpAnyU_take (i := 5) (oi := (Oper.mk (some 26) (Op.load 51 (Operand.tmp 25)) _ _ _ _)) (v := _) rfl (by kernel_rfl) (by kernel_rfl) (by kernel_rfl) (by kernel_rfl) (fun _ _ _ h => h) (yieldsIf_load_mid (by rfl) _ _ rfl gb (go' + 3) rfl [.int .i64 q.a, .int .i64 q.b, .int .i64 q.v] _ (fun w hSw => hSw.2) Try.underlying51 rfl (by kernel_rfl)) (by assumption) ?_
  try simp only [Act.put, List.setIfInBounds_toArray, List.set_cons_zero, List.set_cons_succ]
  refine Hu.wpAnyU_ready (rs := [6]) (by kernel_rfl) (by simp) ?_
  refine Hu.AllReadyU.cons (o := (Oper.mk (some 27) (Op.call _) _ _ _ _)) rfl (fun K hK => ?_) Hu.AllReadyU.nil
  go_simp
  go_at_call 35
  refine (cS.out _).mono ?_
  rintro e wc ⟨rfl, bc⟩
  have GC : Below w1.heap.size w1 wc := bel_on G0 bc
  have XC := HXB.out.on (bel_on GD bc)
  have cc2 := XC.cell 2 _ rfl
  have cc3 := XC.cell 3 _ rfl
  have ff2 := XC.free 2
  have ff3 := XC.free 3
  have cl := XC.lt
  refine hK.out _ _ ?_ (fun hHeld => ?_)
  · exact KS.out _ GC
  clear hK K bc
  try simp only [Act.put, List.setIfInBounds_toArray, List.set_cons_zero, List.set_cons_succ]
  iterate 1
    first | refine Hu.pk (v := ?_) 7 ?_ ?_
    rotate_left
    · intro w hSw
      (try dsimp only at hSw)
      go_simp
      all_goals (try with_reducible rfl)
    try simp only [Act.put, List.setIfInBounds_toArray, List.set_cons_zero, List.set_cons_succ]
  iterate 1
    first | refine Hu.pk (v := ?_) 8 ?_ ?_
    rotate_left
    · intro w hSw
      (try dsimp only at hSw)
      go_simp
      all_goals (try with_reducible rfl)
    try simp only [Act.put, List.setIfInBounds_toArray, List.set_cons_zero, List.set_cons_succ]
  iterate 1
    first | refine Hu.pk (v := ?_) 9 ?_ ?_
    rotate_left
    · intro w hSw
      (try dsimp only at hSw)
      go_simp
      all_goals (try with_reducible rfl)
    try simp only [Act.put, List.setIfInBounds_toArray, List.set_cons_zero, List.set_cons_succ]
  iterate 1
    first | refine Hu.pk (v := ?_) 10 ?_ ?_
    rotate_left
    · intro w hSw
      (try dsimp only at hSw)
      go_simp
      all_goals (try with_reducible rfl)
    try simp only [Act.put, List.setIfInBounds_toArray, List.set_cons_zero, List.set_cons_succ]
  refine Hu.wpAnyU_ready (rs := [11]) (by kernel_rfl) (by simp) ?_
  refine Hu.AllReadyU.cons (o := (Oper.mk none (Op.store _ _ _) _ _ _ _)) rfl (fun K hK => ?_) Hu.AllReadyU.nil
  go_simp
  have hk31 : w1.heap.size ≤ k3 := by rw [HK3.out]; exact Nat.le_refl _
  have XD := XC.set 2 (.int .i64 DA)
  have GE : Below w1.heap.size w1 (wc.setCell ⟨k3, 2, none⟩ (.int .i64 DA)) := GC.setCell (p := ⟨k3, 2, none⟩) hk31 _
  obtain ⟨wd, hwd⟩ : ∃ W, W = wc.setCell ⟨k3, 2, none⟩ (.int .i64 DA) := ⟨_, rfl⟩
  rw [← hwd] at XD GE ⊢
  have dc3 := XD.cell 3 _ rfl
  have df3 := XD.free 3
  have dl := XD.lt
  refine hK.out _ _ ?_ (fun hHeld => ?_)
  · exact KS.out _ GE
  clear hK K hwd cc2 cc3 ff2 ff3
  try simp only [Act.put, List.setIfInBounds_toArray, List.set_cons_zero, List.set_cons_succ]
  iterate 1
    first | refine Hu.pk (v := ?_) 12 ?_ ?_
    rotate_left
    · intro w hSw
      (try dsimp only at hSw)
      go_simp
      all_goals (try with_reducible rfl)
    try simp only [Act.put, List.setIfInBounds_toArray, List.set_cons_zero, List.set_cons_succ]
  refine Hu.wpAnyU_ready (rs := [13]) (by kernel_rfl) (by simp) ?_
  refine Hu.AllReadyU.last (o := (Oper.mk none (Op.store _ _ _) _ _ _ _)) rfl (by kernel_rfl) (fun K hK => ?_) Hu.AllReadyU.nil
  go_simp
  obtain ⟨we, hwe⟩ : ∃ W, W = wd.setCell ⟨k3, 3, none⟩ (.int .i64 DV) := ⟨_, rfl⟩
  have XE : Box we k3 (gpC ⟨p.a, p.v, DA, DV, 1⟩) := by rw [hwe]; exact XD.set 3 _
  have be : Below w1.heap.size w1 we := by rw [hwe]; exact GE.setCell (p := ⟨k3, 3, none⟩) hk31 _
  rw [← hwe]
  refine hK.out _ _ ?_
  clear hK K KS G0 GD hwe XC XD GC GE dc3 df3 dl cS
  refine Hu.wpAnyU_done (by kernel_rfl) ?_ _
  try dsimp only [Act.put]
  have HE := hid be
  have HXE := hid XE
  have wn : IntKind.i64.wrap ((n : Int) - 1) = (n : Int) - 1 := wrap_l (by unfold I64; omega)
  clear be XE
  go_wp2
  go_loopw [35] (fun i wr => ∃ (i' : Nat), i = .int .i64 (i' : Int) ∧ i' + 1 ≤ n ∧ Hid (∀ (j : Nat) (x y : Rn Int), j < i' → ps[j]? = some x → ps[j + 1]? = some y → y.a - x.a = DA ∧ y.v - x.v = DV) ∧ Hid (Box wr k3 (gpC ⟨p.a, p.v, DA, DV, (i' : Int) + 1⟩)) ∧ Hid (Below w1.heap.size w1 wr)) (fun i _ => n - (intOf i).toNat)
  case atStart => exact ⟨0, rfl, by omega, hid (fun j _ _ h => absurd h (Nat.not_lt_zero _)), HXE, HE⟩
  case round =>
    obtain ⟨i', rfl, hi, hT, hY, hb⟩ := hrel
    by_cases hlt : i' + 1 < n
    · have zl : decide ((i' : Int) < (n : Int) - 1) = true := decide_eq_true (by omega)
      obtain ⟨x, hx⟩ : ∃ x, ps[i']? = some x := ⟨_, List.getElem?_eq_getElem (by have := HN.out; omega)⟩
      obtain ⟨y, hy⟩ : ∃ y, ps[i' + 1]? = some y := ⟨_, List.getElem?_eq_getElem (by have := HN.out; omega)⟩
      obtain ⟨gb', go2, eg, -, x0, x1, x2, -⟩ := rn_at (HR.out wr (HX.out wr hb.out).2) hx
      simp only [Option.some.injEq, Addr.mk.injEq, and_true] at eg
      obtain ⟨rfl, rfl⟩ := eg
      obtain ⟨gb', go2, eg, -, y0, y1, y2, -⟩ := rn_at (HR.out wr (HX.out wr hb.out).2) hy
      simp only [Option.some.injEq, Addr.mk.injEq, and_true] at eg
      obtain ⟨rfl, rfl⟩ := eg
      obtain ⟨v1, v2, v3, v4⟩ := HV.out x (List.mem_of_getElem? hx)
      obtain ⟨u1, u2, u3, u4⟩ := HV.out y (List.mem_of_getElem? hy)
      have cS : Hid (∀ W, Calls Try.prog 35 #[.agg #[.int .i64 x.a, .int .i64 x.b, .int .i64 x.v], .agg #[.int .i64 y.a, .int .i64 y.b, .int .i64 y.v]] W fun e w' => e = .returned (.tuple #[.int .i64 (y.a - x.a), .int .i64 (y.v - x.v)]) ∧ Below W.heap.size W w') := hid fun W => by
        have := step_any x y W
        rwa [wrap_l (by unfold I64; omega), wrap_l (by unfold I64; omega)] at this
      obtain ⟨EA, hEA⟩ : ∃ D, D = y.a - x.a := ⟨_, rfl⟩
      obtain ⟨EV, hEV⟩ : ∃ D, D = y.v - x.v := ⟨_, rfl⟩
      rw [← hEA, ← hEV] at cS
      have HEA := hid hEA
      have HEV := hid hEV
      have HXX := hid hx
      have HYY := hid hy
      have i2 : (i' : Int) < (n : Int) := by omega
      have i3 : (0 : Int) ≤ (i' : Int) := by omega
      have i4 : IntKind.i64.wrap ((i' : Int) + 1) = ((i' + 1 : Nat) : Int) := by rw [show (i' : Int) + 1 = ((i' + 1 : Nat) : Int) by omega]; exact wrap_l (by unfold I64; omega)
      have i5 : ((i' + 1 : Nat) : Int) < (n : Int) := by omega
      have i6 : (0 : Int) ≤ ((i' + 1 : Nat) : Int) := by omega
      have k0 := cell_regrown x0; have k1' := cell_regrown x1; have k2 := cell_regrown x2
      have m0 := cell_regrown y0; have m1 := cell_regrown y1; have m2 := cell_regrown y2
      have qF := fun dd os => Calls.regrown_of (cS.out (grow (redrawn wr dd) os))
      clear v1 v2 v3 v4 u1 u2 u3 u4 hEA hEV hx hy x0 x1 x2 y0 y1 y2
      go_upto_region 8 with fail
      refine wp_region_quiet_below (by kernel_rfl) (by kernel_rfl) ?_
      repeat (go_big_quiet_step ((exact qF _ _)))
      refine wpQuiet_nil ?_
      intro _ hw'
      obtain ⟨⟨dq, osq⟩, hw''⟩ := hw'
      subst hw''
      obtain ⟨wz, hwz⟩ : ∃ wz, wz = grow (redrawn wr dq) osq := ⟨_, rfl⟩
      have bz : Below wr.heap.size wr wz := by rw [hwz]; exact below_regrown wr dq osq
      rw [← hwz]
      clear hwz k0 k1' k2 m0 m1 m2 qF cS
      have BZ := hid (bel_on hb.out bz)
      have YZ := hid (hY.out.on bz)
      have d2 := YZ.out.cell 2 _ rfl
      have d3 := YZ.out.cell 3 _ rfl
      have d4 := YZ.out.cell 4 _ rfl
      have f4 := YZ.out.free 4
      have lz := YZ.out.lt
      clear bz hb hY
      have hi1 : EA = DA → EV = DV → False ∨ True := fun _ _ => .inr trivial
      have NE := hid (show (EA ≠ DA ∨ EV ≠ DV) → GR = ⟨p.a, p.v, DA, DV, (i' : Int) + 1⟩ from fun hd => by
        have i'1 : 1 ≤ i' := by
          rcases Nat.eq_zero_or_pos i' with e | e
          · subst e
            have e1 := Option.some.inj (HXX.out.symm.trans HP.out)
            have e2 := Option.some.inj (HYY.out.symm.trans HQ.out)
            rw [HEA.out, HEV.out, HDA.out, HDV.out, e1, e2] at hd
            rcases hd with h | h <;> exact absurd rfl h
          · exact e
        rw [HG.out, HDA.out, HDV.out]
        refine hd_is HP.out HQ.out i'1 (by have := HN.out; omega) (fun j a b hj ha hb => by rw [← HDA.out, ← HDV.out]; exact hT.out j a b hj ha hb) (fun a b ha hb => ?_)
        obtain rfl := Option.some.inj (HXX.out.symm.trans ha)
        obtain rfl := Option.some.inj (HYY.out.symm.trans hb)
        rw [← HDA.out, ← HDV.out, ← HEA.out, ← HEV.out]
        rintro ⟨h1, h2⟩
        rcases hd with h | h
        · exact h h1
        · exact h h2)
      clear hi1
      by_cases hA : EA = DA
      rotate_left
      · have zA : (EA == DA) = false := by rw [beq_eq_false_iff_ne]; exact hA
        have E := hid (NE.out (.inl hA))
        clear d2 d3 d4 f4 lz hA NE hT
        obtain ⟨Z1, BW⟩ := HX.out wz BZ.out
        have d0 := YZ.out.cell 0 _ rfl; have d1 := YZ.out.cell 1 _ rfl; have d2 := YZ.out.cell 2 _ rfl; have d3 := YZ.out.cell 3 _ rfl; have d4 := YZ.out.cell 4 _ rfl; have ld := YZ.out.lt
        have z0 := Z1.cell 0 _ rfl; have z1 := Z1.cell 1 _ rfl; have z2 := Z1.cell 2 _ rfl; have z3 := Z1.cell 3 _ rfl; have z4 := Z1.cell 4 _ rfl; have lz := Z1.lt
        have f0 := Z1.free 0; have f1 := Z1.free 1; have f2 := Z1.free 2; have f3 := Z1.free 3; have f4 := Z1.free 4
        have X7 := hid (show Box (((((wz.setCell ⟨k1, 0, none⟩ (.int .i64 p.a)).setCell ⟨k1, 1, none⟩ (.int .i64 p.v)).setCell ⟨k1, 2, none⟩ (.int .i64 DA)).setCell ⟨k1, 3, none⟩ (.int .i64 DV)).setCell ⟨k1, 4, none⟩ (.int .i64 ((i' : Int) + 1))) k1 (gpC ⟨p.a, p.v, DA, DV, (i' : Int) + 1⟩) from (((((Z1).set 0 _).set 1 _).set 2 _).set 3 _).set 4 _)
        have BF := hid ((((((BW).setCell (p := ⟨k1, 0, none⟩) HK1.out.1 (.int .i64 p.a)).setCell (p := ⟨k1, 1, none⟩) HK1.out.1 (.int .i64 p.v)).setCell (p := ⟨k1, 2, none⟩) HK1.out.1 (.int .i64 DA)).setCell (p := ⟨k1, 3, none⟩) HK1.out.1 (.int .i64 DV)).setCell (p := ⟨k1, 4, none⟩) HK1.out.1 (.int .i64 ((i' : Int) + 1)))
        clear Z1 BW 
        go_wp2
        refine bodyPost_ret (v := .agg #[.int .i64 p.a, .int .i64 p.v, .int .i64 DA, .int .i64 DV, .int .i64 ((i' : Int) + 1)]) ?_ rfl ⟨by rw [E.out], BF.out⟩
        exact Md.results_mid rfl _ _ k1 (gpC ⟨p.a, p.v, DA, DV, (i' : Int) + 1⟩) _ rfl (fun j u h => by rw [Nat.zero_add]; exact X7.out.cell j u h) Try.underlying45 rfl (by kernel_rfl)
      by_cases hV : EV = DV
      rotate_left
      · have zV : (EV == DV) = false := by rw [beq_eq_false_iff_ne]; exact hV
        have E := hid (NE.out (.inr hV))
        clear d2 d3 d4 f4 lz hV NE hT
        subst hA
        obtain ⟨Z1, BW⟩ := HX.out wz BZ.out
        have d0 := YZ.out.cell 0 _ rfl; have d1 := YZ.out.cell 1 _ rfl; have d2 := YZ.out.cell 2 _ rfl; have d3 := YZ.out.cell 3 _ rfl; have d4 := YZ.out.cell 4 _ rfl; have ld := YZ.out.lt
        have z0 := Z1.cell 0 _ rfl; have z1 := Z1.cell 1 _ rfl; have z2 := Z1.cell 2 _ rfl; have z3 := Z1.cell 3 _ rfl; have z4 := Z1.cell 4 _ rfl; have lz := Z1.lt
        have f0 := Z1.free 0; have f1 := Z1.free 1; have f2 := Z1.free 2; have f3 := Z1.free 3; have f4 := Z1.free 4
        have X7 := hid (show Box (((((wz.setCell ⟨k1, 0, none⟩ (.int .i64 p.a)).setCell ⟨k1, 1, none⟩ (.int .i64 p.v)).setCell ⟨k1, 2, none⟩ (.int .i64 EA)).setCell ⟨k1, 3, none⟩ (.int .i64 DV)).setCell ⟨k1, 4, none⟩ (.int .i64 ((i' : Int) + 1))) k1 (gpC ⟨p.a, p.v, EA, DV, (i' : Int) + 1⟩) from (((((Z1).set 0 _).set 1 _).set 2 _).set 3 _).set 4 _)
        have BF := hid ((((((BW).setCell (p := ⟨k1, 0, none⟩) HK1.out.1 (.int .i64 p.a)).setCell (p := ⟨k1, 1, none⟩) HK1.out.1 (.int .i64 p.v)).setCell (p := ⟨k1, 2, none⟩) HK1.out.1 (.int .i64 EA)).setCell (p := ⟨k1, 3, none⟩) HK1.out.1 (.int .i64 DV)).setCell (p := ⟨k1, 4, none⟩) HK1.out.1 (.int .i64 ((i' : Int) + 1)))
        clear Z1 BW 
        go_wp2
        refine bodyPost_ret (v := .agg #[.int .i64 p.a, .int .i64 p.v, .int .i64 EA, .int .i64 DV, .int .i64 ((i' : Int) + 1)]) ?_ rfl ⟨by rw [E.out], BF.out⟩
        exact Md.results_mid rfl _ _ k1 (gpC ⟨p.a, p.v, EA, DV, (i' : Int) + 1⟩) _ rfl (fun j u h => by rw [Nat.zero_add]; exact X7.out.cell j u h) Try.underlying45 rfl (by kernel_rfl)
      subst hA
      subst hV
      have NT := hid (show ∀ (j : Nat) (a b : Rn Int), j < i' + 1 → ps[j]? = some a → ps[j + 1]? = some b → b.a - a.a = EA ∧ b.v - a.v = EV from fun j a b hj ha hb => by
        rcases Nat.lt_or_ge j i' with k | k
        · exact hT.out j a b k ha hb
        · obtain rfl : j = i' := by omega
          obtain rfl := Option.some.inj (HXX.out.symm.trans ha)
          obtain rfl := Option.some.inj (HYY.out.symm.trans hb)
          exact ⟨HEA.out.symm, HEV.out.symm⟩)
      have w7 : IntKind.i64.wrap ((i' : Int) + 1 + 1) = ((i' + 1 : Nat) : Int) + 1 := by rw [show (i' : Int) + 1 + 1 = ((i' + 1 : Nat) : Int) + 1 by omega]; exact wrap_l (by unfold I64; omega)
      have YN := hid (show Box (wz.setCell ⟨k3, 4, none⟩ (.int .i64 (((i' + 1 : Nat) : Int) + 1))) k3 (gpC ⟨p.a, p.v, EA, EV, ((i' + 1 : Nat) : Int) + 1⟩) from YZ.out.set 4 _)
      have BN := hid (BZ.out.setCell (p := ⟨k3, 4, none⟩) (by rw [HK3.out]; exact Nat.le_refl _) (.int .i64 (((i' + 1 : Nat) : Int) + 1)))
      clear NE hT HXX HYY HEA HEV i5 i6
      go_wp2
      go_roundw
      case rel => exact ⟨i' + 1, by simp, by omega, NT, YN, BN⟩
      case measure => simp [intOf]; omega
    · have zl : decide ((i' : Int) < (n : Int) - 1) = false := decide_eq_false (by omega)
      have E := hid (show GR = ⟨p.a, p.v, DA, DV, (i' : Int) + 1⟩ by
        rw [HG.out, HDA.out, HDV.out]
        exact hd_is HP.out HQ.out (by omega) (by have := HN.out; omega) (fun j a b hj ha hb => by rw [← HDA.out, ← HDV.out]; exact hT.out j a b hj ha hb) (fun a b ha hb => by
          rw [List.getElem?_eq_none (by have := HN.out; omega)] at hb
          cases hb))
      clear hT
      obtain ⟨Z1, BW⟩ := HX.out wr hb.out
      have d0 := hY.out.cell 0 _ rfl; have d1 := hY.out.cell 1 _ rfl; have d2 := hY.out.cell 2 _ rfl; have d3 := hY.out.cell 3 _ rfl; have d4 := hY.out.cell 4 _ rfl; have ld := hY.out.lt
      have z0 := Z1.cell 0 _ rfl; have z1 := Z1.cell 1 _ rfl; have z2 := Z1.cell 2 _ rfl; have z3 := Z1.cell 3 _ rfl; have z4 := Z1.cell 4 _ rfl; have lz := Z1.lt
      have f0 := Z1.free 0; have f1 := Z1.free 1; have f2 := Z1.free 2; have f3 := Z1.free 3; have f4 := Z1.free 4
      have X7 := hid (show Box (((((wr.setCell ⟨k1, 0, none⟩ (.int .i64 p.a)).setCell ⟨k1, 1, none⟩ (.int .i64 p.v)).setCell ⟨k1, 2, none⟩ (.int .i64 DA)).setCell ⟨k1, 3, none⟩ (.int .i64 DV)).setCell ⟨k1, 4, none⟩ (.int .i64 ((i' : Int) + 1))) k1 (gpC ⟨p.a, p.v, DA, DV, (i' : Int) + 1⟩) from (((((Z1).set 0 _).set 1 _).set 2 _).set 3 _).set 4 _)
      have BF := hid ((((((BW).setCell (p := ⟨k1, 0, none⟩) HK1.out.1 (.int .i64 p.a)).setCell (p := ⟨k1, 1, none⟩) HK1.out.1 (.int .i64 p.v)).setCell (p := ⟨k1, 2, none⟩) HK1.out.1 (.int .i64 DA)).setCell (p := ⟨k1, 3, none⟩) HK1.out.1 (.int .i64 DV)).setCell (p := ⟨k1, 4, none⟩) HK1.out.1 (.int .i64 ((i' : Int) + 1)))
      clear Z1 BW 
      go_wp2
      refine bodyPost_ret (v := .agg #[.int .i64 p.a, .int .i64 p.v, .int .i64 DA, .int .i64 DV, .int .i64 ((i' : Int) + 1)]) ?_ rfl ⟨by rw [E.out], BF.out⟩
      exact Md.results_mid rfl _ _ k1 (gpC ⟨p.a, p.v, DA, DV, (i' : Int) + 1⟩) _ rfl (fun j u h => by rw [Nat.zero_add]; exact X7.out.cell j u h) Try.underlying45 rfl (by kernel_rfl)
end Go.Proofs.Ytemjmdfmcblgnaa.Cc
