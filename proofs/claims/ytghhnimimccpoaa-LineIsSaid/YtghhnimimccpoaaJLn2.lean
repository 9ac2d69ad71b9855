/- Lines (layer 14) as plain data, more: where runs begin; what is found among them; two lines, run by run. No program is named here. -/
import Derived.Test.YtghhnimimccpoaaJDatB
import Derived.Test.YtghhnimimccpoaaJLn1
namespace Go.Proofs.Ytghhnimimccpoaa.Mm
end Go.Proofs.Ytghhnimimccpoaa.Mm
namespace Go.Proofs.Ytghhnimimccpoaa.P
end Go.Proofs.Ytghhnimimccpoaa.P
namespace Go.Proofs.Ytghhnimimccpoaa.R6
end Go.Proofs.Ytghhnimimccpoaa.R6
namespace Go.Proofs.Ytghhnimimccpoaa.R14
end Go.Proofs.Ytghhnimimccpoaa.R14
namespace Go.Proofs.Ytghhnimimccpoaa.L14
end Go.Proofs.Ytghhnimimccpoaa.L14
namespace Go.Proofs.Ytghhnimimccpoaa.P
open Go.RowKit Mm
section
variable {α β γ : Type}
theorem chain_in : ∀ (rs : List (Rn α)) (k : Int), chainR k rs → ∀ s ∈ rs, k ≤ s.a ∧ s.a ≤ s.b
  | [], _, _, _, h => by cases h
  | r :: rs, k, h, s, hs => by
    obtain ⟨h1, h2, h3, h4⟩ := h
    rcases List.mem_cons.1 hs with rfl | hm
    · omega
    · have := chain_in rs _ h4 s hm
      omega
/-- Where a run begins; behind the last one, where all end. -/
def stC (k : Int) (rs : List (Rn α)) (i : Nat) : Int := match rs[i]? with
  | some r => r.a
  | none => k + (expR rs).length
theorem exp_cons {r : Rn α} {rs : List (Rn α)} (h : r.a ≤ r.b) : ((expR (r :: rs)).length : Int) = (r.b - r.a + 1) + (expR rs).length := by
  unfold expR
  rw [List.flatMap_cons, List.length_append, List.length_replicate]
  omega
theorem stC_zero : ∀ {rs : List (Rn α)} {k : Int}, chainR k rs → stC k rs 0 = k
  | [], k, _ => by simp [stC, expR]
  | r :: rs, k, h => h.1
theorem stC_cons {r : Rn α} {rs : List (Rn α)} {k : Int} (h : chainR k (r :: rs)) (i : Nat) : stC k (r :: rs) (i + 1) = stC (r.b + 1) rs i := by
  obtain ⟨h1, h2, h3, h4⟩ := h
  unfold stC
  rw [List.getElem?_cons_succ]
  split
  · rfl
  · rw [exp_cons h2]
    omega
theorem stC_succ : ∀ {rs : List (Rn α)} {k : Int}, chainR k rs → ∀ {i : Nat} {r : Rn α}, rs[i]? = some r → stC k rs (i + 1) = r.b + 1
  | [], _, _, _, _, h => by cases h
  | r :: rs, k, h, 0, s, hs => by
    obtain rfl : r = s := Option.some.inj hs
    rw [stC_cons h, stC_zero h.2.2.2]
  | r :: rs, k, h, i + 1, s, hs => by
    rw [stC_cons h]
    exact stC_succ h.2.2.2 hs
theorem stC_at {rs : List (Rn α)} {k : Int} {i : Nat} {r : Rn α} (h : rs[i]? = some r) : stC k rs i = r.a := by unfold stC; rw [h]
theorem stC_ge {rs : List (Rn α)} {k : Int} (h : chainR k rs) (i : Nat) : k ≤ stC k rs i := by
  unfold stC
  split
  · rename_i r hr
    exact (chain_in rs k h r (List.mem_of_getElem? hr)).1
  · omega
theorem chain_lt : ∀ {rs : List (Rn α)} {k : Int}, chainR k rs → ∀ {i j : Nat} {r s : Rn α}, i < j → rs[i]? = some r → rs[j]? = some s → r.b < s.a
  | [], _, _, _, _, _, _, _, h, _ => by cases h
  | z :: rs, k, h, 0, j + 1, r, s, _, hr, hs => by
    obtain rfl : z = r := Option.some.inj hr
    have := chain_in rs _ h.2.2.2 s (List.mem_of_getElem? (by rw [List.getElem?_cons_succ] at hs; exact hs))
    omega
  | z :: rs, k, h, i + 1, j + 1, r, s, hij, hr, hs => chain_lt h.2.2.2 (Nat.lt_of_succ_lt_succ hij) (i := i) (j := j) hr hs
theorem chain_at : ∀ {rs : List (Rn α)} {k : Int}, chainR k rs → ∀ {i : Nat} {r : Rn α} {x : Int}, rs[i]? = some r → r.a ≤ x → x ≤ r.b → (expR rs)[(x - k).toNat]? = some r.v
  | [], _, _, _, _, _, h, _, _ => by cases h
  | z :: rs, k, h, 0, r, x, hr, h1, h2 => by
    obtain rfl : z = r := Option.some.inj hr
    have := h.1
    unfold expR
    rw [List.flatMap_cons, List.getElem?_append_left (by rw [List.length_replicate]; omega), List.getElem?_replicate, if_pos (by omega)]
  | z :: rs, k, h, i + 1, r, x, hr, h1, h2 => by
    rw [List.getElem?_cons_succ] at hr
    have g := chain_in rs _ h.2.2.2 r (List.mem_of_getElem? hr)
    have ih := chain_at h.2.2.2 hr h1 h2
    have e1 := h.1
    have e2 := h.2.1
    unfold expR at ih ⊢
    rw [List.flatMap_cons, List.getElem?_append_right (by rw [List.length_replicate]; omega), List.length_replicate, show (x - k).toNat - (z.b - z.a + 1).toNat = (x - (z.b + 1)).toNat by omega]
    exact ih
theorem chain_cover : ∀ {rs : List (Rn α)} {k : Int}, chainR k rs → ∀ {x : Int}, k ≤ x → x < k + (expR rs).length → ∃ (i : Nat) (r : Rn α), rs[i]? = some r ∧ r.a ≤ x ∧ x ≤ r.b
  | [], k, _, x, h1, h2 => by simp [expR] at h2; omega
  | z :: rs, k, h, x, h1, h2 => by
    by_cases hx : x ≤ z.b
    · exact ⟨0, z, rfl, by have := h.1; omega, hx⟩
    · rw [exp_cons h.2.1] at h2
      obtain ⟨i, r, a, b, c⟩ := chain_cover h.2.2.2 (x := x) (by omega) (by have := h.1; omega)
      exact ⟨i + 1, r, by rw [List.getElem?_cons_succ]; exact a, b, c⟩
variable [DecidableEq α] [DecidableEq β]
/-- What a line has within one of its runs. -/
theorem at_run {k : Int} {l : List α} {i : Nat} {r : Rn α} {x : Int} (h : (runsF k l)[i]? = some r) (h1 : r.a ≤ x) (h2 : x ≤ r.b) : atL k l x = some r.v := by
  have g := chain_in _ k (chain_runs l k) r (List.mem_of_getElem? h)
  have := chain_at (chain_runs l k) h h1 h2
  rw [exp_runs] at this
  unfold atL
  rw [if_neg (by omega), this]
/-- What a search among the runs finds. -/
theorem find_run {k : Int} {l : List α} {x : Int} {lo : Nat} (h1 : ∀ j r, j < lo → (runsF k l)[j]? = some r → r.b < x) (h2 : ∀ j r, lo ≤ j → (runsF k l)[j]? = some r → x ≤ r.b) (h3 : ∀ r, (runsF k l)[lo]? = some r → x < r.a) : atL k l x = none := by
  unfold atL
  split
  · rfl
  · rename_i hx
    rcases e : l[(x - k).toNat]? with _ | v
    · rfl
    · have hl := (List.getElem?_eq_some_iff.1 e).1
      have c := chain_runs l k
      obtain ⟨i, r, hi, ha, hb⟩ := chain_cover c (x := x) (by omega) (by rw [exp_runs]; omega)
      rcases Nat.lt_trichotomy i lo with q | q | q
      · have := h1 i r q hi; omega
      · subst q; have := h3 r hi; omega
      · obtain ⟨s, hs⟩ : ∃ s, (runsF k l)[lo]? = some s := ⟨_, List.getElem?_eq_getElem (by have := (List.getElem?_eq_some_iff.1 hi).1; omega)⟩
        have q1 := chain_lt c q hs hi
        have q2 := h2 lo s (Nat.le_refl _) hs
        omega
/-- What one run more of two lines makes of the runs so far. -/
theorem zip_more [DecidableEq γ] {Z : List γ} {m : Int} {c n : Nat} {v : γ} (h : ∀ t, t ≤ n → Z[c + t]? = some v) : addR (runsF m (Z.take c)) ⟨m + c, m + c + n, v⟩ = runsF m (Z.take (c + n + 1)) := by
  have hc : c < Z.length := (List.getElem?_eq_some_iff.1 (h 0 (Nat.zero_le _))).1
  have hl : (Z.take c).length = c := by rw [List.length_take]; omega
  have e := add_runs m (Z.take c) v n
  rw [hl] at e
  rw [e]
  congr 1
  rw [show c + n + 1 = c + (n + 1) by omega, List.take_add]
  congr 1
  refine List.ext_getElem? fun t => ?_
  by_cases ht : t ≤ n
  · rw [List.getElem?_replicate, if_pos (by omega), List.getElem?_take_of_lt (by omega), List.getElem?_drop, h t ht]
  · rw [List.getElem?_eq_none (by rw [List.length_replicate]; omega), List.getElem?_eq_none (by rw [List.length_take]; omega)]
/-- What a list has of two lines, number by number, from where both begin. -/
def Both (f : α → β → γ) (k : Int) (l : List α) (k' : Int) (l' : List β) (Z : List γ) : Prop := ∀ i : Nat, Z[i]? = match atL k l (max k k' + i), atL k' l' (max k k' + i) with
  | some a, some b => some (f a b)
  | _, _ => none
/-- How far two lines are gone through. -/
def frC (k : Int) (l : List α) (k' : Int) (l' : List β) (i j : Nat) : Nat := (max (stC k (runsF k l) i) (stC k' (runsF k' l') j) - max k k').toNat
theorem frC_zero (k : Int) (l : List α) (k' : Int) (l' : List β) : frC k l k' l' 0 0 = 0 := by
  unfold frC
  rw [stC_zero (chain_runs l k), stC_zero (chain_runs l' k')]
  omega
section
variable {f : α → β → γ} {k : Int} {l : List α} {k' : Int} {l' : List β} {Z : List γ} {i j : Nat} {x : Rn α} {y : Rn β}
theorem fr_at (hx : (runsF k l)[i]? = some x) (hy : (runsF k' l')[j]? = some y) : ((frC k l k' l' i j : Nat) : Int) = max x.a y.a - max k k' := by
  have g1 := chain_in _ k (chain_runs l k) x (List.mem_of_getElem? hx)
  have g2 := chain_in _ k' (chain_runs l' k') y (List.mem_of_getElem? hy)
  unfold frC
  rw [stC_at hx, stC_at hy]
  omega
theorem zip_meet [DecidableEq γ] (hZ : Both f k l k' l' Z) (hx : (runsF k l)[i]? = some x) (hy : (runsF k' l')[j]? = some y) (h : max x.a y.a ≤ min x.b y.b) :
    addR (runsF (max k k') (Z.take (frC k l k' l' i j))) ⟨max x.a y.a, min x.b y.b, f x.v y.v⟩ = runsF (max k k') (Z.take (min x.b y.b + 1 - max k k').toNat) := by
  have e := fr_at hx hy
  obtain ⟨c, hc⟩ : ∃ c, c = frC k l k' l' i j := ⟨_, rfl⟩
  rw [← hc] at e ⊢
  obtain ⟨n, hn⟩ : ∃ n : Nat, (n : Int) = min x.b y.b - max x.a y.a := ⟨(min x.b y.b - max x.a y.a).toNat, by omega⟩
  have q := zip_more (Z := Z) (m := max k k') (c := c) (n := n) (v := f x.v y.v) (fun t ht => by
    rw [hZ (c + t), at_run hx (x := max k k' + ((c + t : Nat) : Int)) (by omega) (by omega), at_run hy (x := max k k' + ((c + t : Nat) : Int)) (by omega) (by omega)])
  rw [show max x.a y.a = max k k' + (c : Int) by omega, show min x.b y.b = max k k' + (c : Int) + (n : Int) by omega, q]
  congr 2
  omega
theorem fr_left (hx : (runsF k l)[i]? = some x) (hy : (runsF k' l')[j]? = some y) (h : x.b = min x.b y.b) : (max x.a y.a ≤ min x.b y.b → frC k l k' l' (i + 1) j = (min x.b y.b + 1 - max k k').toNat) ∧ (¬ max x.a y.a ≤ min x.b y.b → frC k l k' l' (i + 1) j = frC k l k' l' i j) := by
  have g1 := chain_in _ k (chain_runs l k) x (List.mem_of_getElem? hx)
  have g2 := chain_in _ k' (chain_runs l' k') y (List.mem_of_getElem? hy)
  unfold frC
  rw [stC_succ (chain_runs l k) hx, stC_at hx, stC_at hy]
  omega
theorem fr_right (hx : (runsF k l)[i]? = some x) (hy : (runsF k' l')[j]? = some y) (h : x.b ≠ min x.b y.b) : (max x.a y.a ≤ min x.b y.b → frC k l k' l' i (j + 1) = (min x.b y.b + 1 - max k k').toNat) ∧ (¬ max x.a y.a ≤ min x.b y.b → frC k l k' l' i (j + 1) = frC k l k' l' i j) := by
  have g1 := chain_in _ k (chain_runs l k) x (List.mem_of_getElem? hx)
  have g2 := chain_in _ k' (chain_runs l' k') y (List.mem_of_getElem? hy)
  unfold frC
  rw [stC_succ (chain_runs l' k') hy, stC_at hx, stC_at hy]
  omega
theorem both_end (hZ : Both f k l k' l' Z) (h : (runsF k l).length ≤ i ∨ (runsF k' l').length ≤ j) : Z.take (frC k l k' l' i j) = Z := by
  refine List.take_of_length_le ?_
  rcases Nat.lt_or_ge (frC k l k' l' i j) Z.length with q | q
  · exfalso
    obtain ⟨z, hz⟩ : ∃ z, Z[frC k l k' l' i j]? = some z := ⟨_, List.getElem?_eq_getElem q⟩
    have g := stC_ge (chain_runs l k) i
    have g' := stC_ge (chain_runs l' k') j
    have e := hZ (frC k l k' l' i j)
    rw [hz] at e
    have ef : (((frC k l k' l' i j : Nat) : Int)) = max (stC k (runsF k l) i) (stC k' (runsF k' l') j) - max k k' := by unfold frC; omega
    rcases h with h | h
    · have s : stC k (runsF k l) i = k + l.length := by unfold stC; rw [List.getElem?_eq_none h, exp_runs]
      have : atL k l (max k k' + ((frC k l k' l' i j : Nat) : Int)) = none := by
        unfold atL
        rw [if_neg (by omega), List.getElem?_eq_none (by omega)]
      rw [this] at e
      cases e
    · have s : stC k' (runsF k' l') j = k' + l'.length := by unfold stC; rw [List.getElem?_eq_none h, exp_runs]
      have : atL k' l' (max k k' + ((frC k l k' l' i j : Nat) : Int)) = none := by
        unfold atL
        rw [if_neg (by omega), List.getElem?_eq_none (by omega)]
      rw [this] at e
      split at e
      · rename_i q
        cases q
      · cases e
  · exact q
end
end
end Go.Proofs.Ytghhnimimccpoaa.P
/- Package line, walked: Of, Count, At, Span, Flat. -/
namespace Go.Proofs.Ytghhnimimccpoaa.Li
open Go.RowKit Go.Sort P Mm R6 R14 L14
theorem rs_at {w : World} {ao : Option Addr} {len cap : Nat} {xs : List (Rn ByteArray)} (h : Row tRs w ao len cap xs) {j : Nat} {r : Rn ByteArray} (hj : xs[j]? = some r) :
    ∃ b o, ao = some ⟨b, o, none⟩ ∧ b < w.heap.size ∧ w.cell? ⟨b, o + j * 3, none⟩ = some (.int .i64 r.a) ∧ w.cell? ⟨b, o + j * 3 + 1, none⟩ = some (.int .i64 r.b) ∧ w.cell? ⟨b, o + j * 3 + 2, none⟩ = some (.string r.v) ∧ RsOk r := by
  obtain ⟨b, o, cs, h1, h2, ⟨h3, h5⟩, h4⟩ := h.at hj
  subst h3
  exact ⟨b, o, h1, h2, lies0 (h4 0 _ rfl), h4 1 _ rfl, h4 2 _ rfl, h5⟩
theorem rs_ok {k : Int} {l : List ByteArray} (h1 : -2147483648 ≤ k) (h2 : k ≤ 2147483648) (h3 : l.length ≤ 1000) (hv : ∀ s ∈ l, s.size ≤ 1000) : ∀ r ∈ runsF k l, RsOk r := fun r hr => by
  obtain ⟨q1, q2, q3, q4⟩ := runs_in l k r hr
  exact ⟨by unfold I64; omega, by unfold I64; omega, by have := hv _ q4; omega⟩
/-- What a search for a number among a line's runs answers. -/
def Srch {α : Type} (k x : Int) (l : List α) (R : List (Rn α)) (e : Ending) : Prop := ∃ (lo : Nat) (ok : Bool), e = .returned (.tuple #[.int .i64 (lo : Int), .bool ok]) ∧ ((ok = true ∧ ∃ r, R[lo]? = some r ∧ atL k l x = some r.v) ∨ (ok = false ∧ atL k l x = none))
theorem srch_yes {α : Type} {k x : Int} {l : List α} {R : List (Rn α)} {e : Ending} {lo : Nat} {r : Rn α} (he : e = .returned (.tuple #[.int .i64 (lo : Int), .bool true])) (h1 : R[lo]? = some r) (h2 : atL k l x = some r.v) : Srch k x l R e := ⟨lo, true, he, .inl ⟨rfl, r, h1, h2⟩⟩
theorem srch_no {α : Type} {k x : Int} {l : List α} {R : List (Rn α)} {e : Ending} (lo : Nat) (he : e = .returned (.tuple #[.int .i64 (lo : Int), .bool false])) (h2 : atL k l x = none) : Srch k x l R e := ⟨lo, false, he, .inr ⟨rfl, h2⟩⟩
theorem rn_ok {k : Int} {l : List Int} (h1 : -2147483648 ≤ k) (h2 : k ≤ 2147483648) (h3 : l.length ≤ 8589934592) (hv : ∀ v ∈ l, I64 v) : ∀ r ∈ runsF k l, RnOk r := runs_ok (by unfold Lim; omega) (by omega) hv
set_option maxHeartbeats 1600000 in
set_option maxRecDepth 100000 in
theorem of_int (k : Int) (l : List Int) (ao : Option Addr) (cap : Nat) (w : World) (hl : Row tInt w ao l.length cap l) (h1 : -2147483648 ≤ k) (h2 : k ≤ 2147483648) (h3 : l.length ≤ 100000) (hok : ∀ r ∈ runsF k l, RnOk r) (hokt : ∀ i, ∀ r ∈ runsF k (l.take i), RnOk r) :
    Calls Try.prog 11 #[.int .i64 k, .slice ao l.length cap] w fun e w' => (∃ ao' cap', e = .returned (.agg #[.slice ao' (runsF k l).length cap']) ∧ Row tRn w' ao' (runsF k l).length cap' (runsF k l)) ∧ Below w.heap.size w w' := by
  obtain ⟨w1, hw1⟩ : ∃ W, W = w.alloc (.cells ([.slice none 0 0] : List Value).toArray 27) := ⟨_, rfl⟩
  obtain ⟨k1, hk1⟩ : ∃ k, k = w.heap.size := ⟨_, rfl⟩
  have b1 : Below w.heap.size w w1 := by rw [hw1]; exact bel_alloc _ _
  have X1 : Box w1 k1 [.slice none 0 0] := by rw [hw1, hk1]; exact Box.new w _ _
  have e1 : w1.heap.size = w.heap.size + 1 := by rw [hw1]; simp
  have X := hid (fun (W : World) (b : Below w1.heap.size w1 W) => (⟨X1.on b, bel_on b1 b⟩ : Box W k1 [.slice none 0 0] ∧ Below w.heap.size w W))
  have HL := hid (fun (W : World) (b : Below w1.heap.size w1 W) => hl.on (bel_on b1 b))
  have OK := hid hok
  have OKT := hid hokt
  have HB := hid (show w.heap.size ≤ k1 ∧ k1 < w1.heap.size by omega)
  have HW := hid hw1
  have HK := hid hk1
  have B0 := hid (Below.refl w1.heap.size w1)
  have lm := hl.hmax
  have lc := hl.hcap
  clear hw1 hk1 X1 b1 hl e1 hok hokt
  go_enter Try.func11, Try.ntmps11
  go_upto_region 1 with fail
  rw [← HW.out, ← HK.out]
  clear HW HK
  go_wp2
  go_loopw [5, 10] (fun v i wr => ∃ (V : Value) (i' : Nat) (N : Nat), V = v ∧ i = .int .i64 (i' : Int) ∧ i' ≤ l.length ∧ Hid (N = (runsF k (l.take i')).length) ∧ Hid (wr.ownsRow w1.heap.size 69 3 V N ((runsF k (l.take i')).flatMap rnC)) ∧ Hid (Below w1.heap.size w1 wr)) (fun _ i _ => l.length - (intOf i).toNat)
  case atStart => exact ⟨_, 0, 0, rfl, rfl, Nat.zero_le _, hid rfl, hid (World.ownsRow_nil _ _ _ _), B0⟩
  case round =>
    obtain ⟨V, i', N, rfl, rfl, hi, hN, hO, hb⟩ := hrel
    clear B0
    by_cases hlt : i' < l.length
    · obtain ⟨x, hx⟩ : ∃ x, l[i']? = some x := ⟨_, List.getElem?_eq_getElem hlt⟩
      obtain ⟨b, o, e, lb, q0, -⟩ := int_at (HL.out wr hb.out) hx
      subst e
      have wk : IntKind.i64.wrap (k + (i' : Int)) = k + (i' : Int) := wrap_l (by unfold I64; omega)
      have NL : N ≤ 1000000 := by
        have := hN.out
        have := runs_len (l.take i') k
        rw [List.length_take] at this
        omega
      have cW := hid (with_int (runsF k (l.take i')) V w1.heap.size N (k + (i' : Int)) (k + (i' : Int)) x wr hN.out hO.out (OKT.out i') hb.out.size NL)
      rw [show withR (runsF k (l.take i')) ⟨k + (i' : Int), k + (i' : Int), x⟩ = runsF k (l.take (i' + 1)) by
        unfold withR
        rw [if_neg (Int.lt_irrefl _)]
        exact (runs_take k l hx).symm] at cW
      have LV := hid (fun j hj => (hO.out.lt j hj).1)
      clear hO hN hx NL
      go_wp2_with fail
      refine cW.out.mono ?_
      rintro e w2 ⟨V2, M, rfl, hM, hO2, hg⟩
      have O2 := hid hO2
      have M2 := hid hM
      have B2 := hid (hb.out.grown hg hb.out.size LV.out)
      clear hO2 hM hg cW
      go_wp2
      go_roundw
      case rel => exact ⟨V2, i' + 1, M, rfl, by simp, by omega, M2, O2, B2⟩
      case measure => simp [intOf]; omega
    · have EA : l.take i' = l := List.take_of_length_le (by omega)
      have oo := hO.out
      have EN := hN.out
      rw [EA] at oo EN
      subst EN
      obtain ⟨ao2, cp, e, -⟩ := row_own (n := 3) (cells := rnC) (ok := RnOk) (hn := fun _ => rfl) oo OK.out
      subst e
      obtain ⟨N, hNN⟩ : ∃ N, N = (runsF k l).length := ⟨_, rfl⟩
      obtain ⟨V, hV⟩ : ∃ V, V = Value.slice ao2 (runsF k l).length cp := ⟨_, rfl⟩
      rw [← hV] at oo ⊢
      have RF := hid (show Row tRn (wr.setCell ⟨k1, 0, none⟩ V) ao2 (runsF k l).length cp (runsF k l) by
        have o2 := other_own oo (k := k1) (i := 0) HB.out.2 V
        obtain ⟨ao3, cp3, e3, R3⟩ := row_own (n := 3) (cells := rnC) (ok := RnOk) (hn := fun _ => rfl) o2 OK.out
        rw [hV] at e3
        simp only [Value.slice.injEq] at e3
        obtain ⟨rfl, -, rfl⟩ := e3
        exact R3)
      have BX := (X.out wr hb.out).1
      have c0 := BX.cell 0 _ rfl
      have f0 := BX.free 0
      have l0 := BX.lt
      have BF := hid ((X.out wr hb.out).2.setCell (p := ⟨k1, 0, none⟩) HB.out.1 V)
      have X7 := hid (show Box (wr.setCell ⟨k1, 0, none⟩ V) k1 [V] from BX.set 0 V)
      subst hV
      clear EA oo hN hO BX hNN
      go_wp2
      refine bodyPost_ret (v := .agg #[.slice ao2 (runsF k l).length cp]) ?_ rfl ⟨⟨ao2, cp, rfl, RF.out⟩, BF.out⟩
      exact Md.results_mid rfl _ _ k1 [.slice ao2 (runsF k l).length cp] _ rfl (fun j u h => by rw [Nat.zero_add]; exact X7.out.cell j u h) Try.underlying27 rfl (by kernel_rfl)
set_option maxHeartbeats 1600000 in
theorem count_int (N : Nat) (ao : Option Addr) (cap : Nat) (w : World) :
    Calls Try.prog 12 #[.agg #[.slice ao N cap]] w fun e w' => e = .returned (.int .i64 (N : Int)) ∧ Below w.heap.size w w' := by
  obtain ⟨w1, hw1⟩ : ∃ W, W = w.alloc (.cells ([.slice ao N cap] : List Value).toArray 27) := ⟨_, rfl⟩
  obtain ⟨k1, hk1⟩ : ∃ k, k = w.heap.size := ⟨_, rfl⟩
  have b1 : Below w.heap.size w w1 := by rw [hw1]; exact bel_alloc _ _
  have X1 : Box w1 k1 [.slice ao N cap] := by rw [hw1, hk1]; exact Box.new w _ _
  have c0 := X1.cell 0 _ rfl
  have l1 := X1.lt
  have B := hid b1
  have HW := hid hw1
  have HK := hid hk1
  clear hw1 hk1 X1 b1
  go_enter Try.func12, Try.ntmps12
  go_upto_region 1 with fail
  rw [← HW.out, ← HK.out]
  clear HW HK
  go_wp2
  go_ret
  exact ⟨rfl, B.out⟩
/-- On which side of a number a run lies. -/
def sideS_int (r : Rn Int) (x : Int) : Int := if r.b < x then -1 else if x < r.a then 1 else 0
set_option maxHeartbeats 1600000 in
theorem side_int (r : Rn Int) (x : Int) (w : World) :
    Calls Try.prog 43 #[.agg #[.int .i64 r.a, .int .i64 r.b, .int .i64 r.v], .int .i64 x] w fun e w' => e = .returned (.int .i64 (sideS_int r x)) ∧ Below w.heap.size w w' := by
  obtain ⟨w1, hw1⟩ : ∃ W, W = w.alloc (.cells ([.int .i64 r.a, .int .i64 r.b, .int .i64 r.v] : List Value).toArray 69) := ⟨_, rfl⟩
  obtain ⟨k1, hk1⟩ : ∃ k, k = w.heap.size := ⟨_, rfl⟩
  have b1 : Below w.heap.size w w1 := by rw [hw1]; exact bel_alloc _ _
  have X1 : Box w1 k1 [.int .i64 r.a, .int .i64 r.b, .int .i64 r.v] := by rw [hw1, hk1]; exact Box.new w _ _
  have c0 := X1.cell 0 _ rfl
  have c1 := X1.cell 1 _ rfl
  have l1 := X1.lt
  have B := hid b1
  have HW := hid hw1
  have HK := hid hk1
  clear hw1 hk1 X1 b1
  by_cases hb : r.b < x
  · have z : decide (r.b < x) = true := decide_eq_true hb
    have E := hid (show sideS_int r x = -1 by unfold sideS_int; rw [if_pos hb])
    clear hb
    go_enter Try.func43, Try.ntmps43
    go_upto_region 1 with fail
    rw [← HW.out, ← HK.out]
    clear HW HK
    go_wp2
    go_ret
    exact ⟨by rw [E.out]; rfl, B.out⟩
  · have z : decide (r.b < x) = false := decide_eq_false hb
    by_cases ha : x < r.a
    · have z2 : decide (x < r.a) = true := decide_eq_true ha
      have E := hid (show sideS_int r x = 1 by unfold sideS_int; rw [if_neg hb, if_pos ha])
      clear hb ha
      go_enter Try.func43, Try.ntmps43
      go_upto_region 1 with fail
      rw [← HW.out, ← HK.out]
      clear HW HK
      go_wp2
      go_ret
      exact ⟨by rw [E.out]; rfl, B.out⟩
    · have z2 : decide (x < r.a) = false := decide_eq_false ha
      have E := hid (show sideS_int r x = 0 by unfold sideS_int; rw [if_neg hb, if_neg ha])
      clear hb ha
      go_enter Try.func43, Try.ntmps43
      go_upto_region 1 with fail
      rw [← HW.out, ← HK.out]
      clear HW HK
      go_wp2
      go_ret
      exact ⟨by rw [E.out]; rfl, B.out⟩
set_option maxHeartbeats 1600000 in
set_option maxRecDepth 100000 in
/-- The search: where the first run stands that isn't below a number, and whether it holds that. -/
theorem search_int (k x : Int) (l : List Int) (ao : Option Addr) (cap : Nat) (w : World) (hr : Row tRn w ao (runsF k l).length cap (runsF k l)) (hn : (runsF k l).length ≤ 100000) :
    Calls Try.prog 42 #[.slice ao (runsF k l).length cap, .int .i64 x, .func (.func 43) #[] #[]] w fun e w' => Srch k x l (runsF k l) e ∧ Below w.heap.size w w' := by
  obtain ⟨R, hR⟩ : ∃ R, R = runsF k l := ⟨_, rfl⟩
  obtain ⟨n, hnn⟩ : ∃ n, n = R.length := ⟨_, rfl⟩
  have CH := hid (show chainR k R by rw [hR]; exact chain_runs l k)
  have FI := hid (show ∀ lo : Nat, (∀ j r, j < lo → R[j]? = some r → r.b < x) → (∀ j r, lo ≤ j → R[j]? = some r → x ≤ r.b) → (∀ r, R[lo]? = some r → x < r.a) → atL k l x = none by rw [hR]; exact fun lo => find_run)
  have AR := hid (show ∀ (i : Nat) (r : Rn Int), R[i]? = some r → r.a ≤ x → x ≤ r.b → atL k l x = some r.v by rw [hR]; exact fun i r => at_run)
  have HR := hid (fun (W : World) (b : Below w.heap.size w W) => hr.on b)
  rw [← hR] at HR hn hr ⊢
  have lm := hr.hmax
  have lc := hr.hcap
  rw [← hnn] at HR hn lc ⊢
  have HN := hid hnn
  have B0 := hid (Below.refl w.heap.size w)
  clear hr hnn hR
  go_enter Try.func42, Try.ntmps42
  go_wp2
  go_loopw [9, 10] (fun i j wr => ∃ (lo hi : Nat), i = .int .i64 (lo : Int) ∧ j = .int .i64 (hi : Int) ∧ lo ≤ hi ∧ hi ≤ n ∧ Hid (∀ j r, j < lo → R[j]? = some r → r.b < x) ∧ Hid (∀ j r, hi ≤ j → R[j]? = some r → x ≤ r.b) ∧ Hid (Below w.heap.size w wr)) (fun i j _ => (intOf j).toNat - (intOf i).toNat)
  case atStart => exact ⟨0, n, rfl, rfl, Nat.zero_le _, Nat.le_refl _, hid (fun j r h => absurd h (Nat.not_lt_zero _)), hid (fun j r h e => by rw [List.getElem?_eq_none (by have := HN.out; omega)] at e; cases e), B0⟩
  case round =>
    obtain ⟨lo, hi, rfl, rfl, hlh, hhn, hL, hH, hb⟩ := hrel
    clear B0
    by_cases hlt : lo < hi
    · have w1 : IntKind.i64.wrap ((lo : Int) + (hi : Int)) = (lo : Int) + (hi : Int) := wrap_l (by unfold I64; omega)
      have w2 : IntKind.u64.wrap ((lo : Int) + (hi : Int)) = (lo : Int) + (hi : Int) := by rw [IntKind.wrap_u64]; omega
      obtain ⟨m, hm⟩ : ∃ m, m = (lo + hi) / 2 := ⟨_, rfl⟩
      have w3 : ((lo : Int) + (hi : Int)) / 2 = (m : Int) := by omega
      have w4 : IntKind.i64.wrap (m : Int) = (m : Int) := wrap_l (by unfold I64; omega)
      have w5 : IntKind.u64.wrap (m : Int) = (m : Int) := by rw [IntKind.wrap_u64]; omega
      have w6 : IntKind.i64.wrap ((m : Int) + 1) = (m : Int) + 1 := wrap_l (by unfold I64; omega)
      obtain ⟨r, hr⟩ : ∃ r, R[m]? = some r := ⟨_, List.getElem?_eq_getElem (by have := HN.out; omega)⟩
      obtain ⟨gb, go, eg, lg, s0, s1, s2, -⟩ := rn_at (HR.out wr hb.out) hr
      subst eg
      have cS := hid (side_int r x wr)
      have mlt : (m : Int) < (n : Int) := by omega
      have m0 : (0 : Int) ≤ (m : Int) := by omega
      by_cases hrb : r.b < x
      · have z : decide (sideS_int r x < 0) = true := by unfold sideS_int; rw [if_pos hrb]; rfl
        obtain ⟨sd, hsd⟩ : ∃ s, s = sideS_int r x := ⟨_, rfl⟩
        rw [← hsd] at z cS
        have NL := hid (show ∀ j r, j < m + 1 → R[j]? = some r → r.b < x from fun j s hj hs => by
          rcases Nat.lt_or_ge j m with q | q
          · have g1 := chain_lt CH.out q hs hr
            have g2 := chain_in R k CH.out r (List.mem_of_getElem? hr)
            omega
          · obtain rfl : j = m := by omega
            rw [hr] at hs
            obtain rfl := Option.some.inj hs
            exact hrb)
        have hm1 : lo ≤ m ∧ m < hi := by omega
        clear hsd hrb hm hr
        go_wp2_with fail
        refine cS.out.mono ?_
        rintro e wz ⟨rfl, hbz⟩
        have BZ := hid (bel_on hb.out hbz)
        clear cS hbz
        go_wp2
        go_roundw
        case rel => exact ⟨m + 1, hi, by simp, rfl, by omega, hhn, NL, hH, BZ⟩
        case measure => simp [intOf]; omega
      · have z : decide (sideS_int r x < 0) = false := by
          unfold sideS_int
          rw [if_neg hrb]
          split <;> rfl
        obtain ⟨sd, hsd⟩ : ∃ s, s = sideS_int r x := ⟨_, rfl⟩
        rw [← hsd] at z cS
        have NH := hid (show ∀ j r, m ≤ j → R[j]? = some r → x ≤ r.b from fun j s hj hs => by
          rcases Nat.lt_or_ge m j with q | q
          · have g1 := chain_lt CH.out q hr hs
            have g2 := chain_in R k CH.out s (List.mem_of_getElem? hs)
            omega
          · obtain rfl : j = m := by omega
            rw [hr] at hs
            obtain rfl := Option.some.inj hs
            omega)
        have hm1 : lo ≤ m ∧ m < hi := by omega
        clear hsd hrb hm hr
        go_wp2_with fail
        refine cS.out.mono ?_
        rintro e wz ⟨rfl, hbz⟩
        have BZ := hid (bel_on hb.out hbz)
        clear cS hbz
        go_wp2
        go_roundw
        case rel => exact ⟨lo, m, rfl, rfl, by omega, by omega, hL, NH, BZ⟩
        case measure => simp [intOf]; omega
    · obtain rfl : lo = hi := by omega
      by_cases hln : lo < n
      · obtain ⟨r, hr⟩ : ∃ r, R[lo]? = some r := ⟨_, List.getElem?_eq_getElem (by have := HN.out; omega)⟩
        obtain ⟨gb, go, eg, lg, s0, s1, s2, -⟩ := rn_at (HR.out wr hb.out) hr
        subst eg
        have cS := hid (side_int r x wr)
        have mlt : (lo : Int) < (n : Int) := by omega
        have m0 : (0 : Int) ≤ (lo : Int) := by omega
        have xb := hH.out lo r (Nat.le_refl _) hr
        by_cases hra : r.a ≤ x
        · have z : (sideS_int r x == 0) = true := by unfold sideS_int; rw [if_neg (by omega), if_neg (by omega)]; rfl
          obtain ⟨sd, hsd⟩ : ∃ s, s = sideS_int r x := ⟨_, rfl⟩
          rw [← hsd] at z cS
          have FV := hid (AR.out lo r hr hra xb)
          have HRR := hid hr
          clear hsd hra hr xb
          go_wp2_with fail
          refine cS.out.mono ?_
          rintro e wz ⟨rfl, hbz⟩
          have BZ := hid (bel_on hb.out hbz)
          clear cS hbz
          go_wp2
          go_ret2
          exact ⟨srch_yes (lo := lo) (r := r) rfl HRR.out FV.out, BZ.out⟩
        · have z : (sideS_int r x == 0) = false := by unfold sideS_int; rw [if_neg (by omega), if_pos (by omega)]; rfl
          obtain ⟨sd, hsd⟩ : ∃ s, s = sideS_int r x := ⟨_, rfl⟩
          rw [← hsd] at z cS
          have FV := hid (FI.out lo hL.out hH.out (fun s hs => by rw [hr] at hs; obtain rfl := Option.some.inj hs; omega))
          clear hsd hra hr xb
          go_wp2_with fail
          refine cS.out.mono ?_
          rintro e wz ⟨rfl, hbz⟩
          have BZ := hid (bel_on hb.out hbz)
          clear cS hbz
          go_wp2
          go_ret2
          exact ⟨srch_no lo rfl FV.out, BZ.out⟩
      · have z9 : ¬ (lo : Int) < (n : Int) := by omega
        have FV := hid (FI.out lo hL.out hH.out (fun s hs => by rw [List.getElem?_eq_none (by have := HN.out; omega)] at hs; cases hs))
        go_wp2
        go_ret2
        exact ⟨srch_no lo rfl FV.out, hb.out⟩
set_option maxHeartbeats 1600000 in
set_option maxRecDepth 100000 in
theorem at_int (k x : Int) (l : List Int) (ao : Option Addr) (cap : Nat) (w : World) (hr : Row tRn w ao (runsF k l).length cap (runsF k l)) (hn : (runsF k l).length ≤ 100000) :
    Calls Try.prog 21 #[.agg #[.slice ao (runsF k l).length cap], .int .i64 x] w fun e w' => e = .returned (.tuple #[.int .i64 (vO (atL k l x)), .bool (atL k l x).isSome]) ∧ Below w.heap.size w w' := by
  obtain ⟨w1, hw1⟩ : ∃ W, W = w.alloc (.cells ([.slice ao (runsF k l).length cap] : List Value).toArray 27) := ⟨_, rfl⟩
  obtain ⟨k1, hk1⟩ : ∃ k, k = w.heap.size := ⟨_, rfl⟩
  have b1 : Below w.heap.size w w1 := by rw [hw1]; exact bel_alloc _ _
  have X1 : Box w1 k1 [.slice ao (runsF k l).length cap] := by rw [hw1, hk1]; exact Box.new w _ _
  have R1 := hr.on b1
  have cS := hid (search_int k x l ao cap w1 R1 hn)
  obtain ⟨R, hR⟩ : ∃ R, R = runsF k l := ⟨_, rfl⟩
  rw [← hR] at cS R1 X1 hr hn hw1 ⊢
  have lm := hr.hmax
  have lc := hr.hcap
  obtain ⟨n, hnn⟩ : ∃ n, n = R.length := ⟨_, rfl⟩
  rw [← hnn] at cS R1 X1 hn lc hw1 ⊢
  have c0 := X1.cell 0 _ rfl
  have l1 := X1.lt
  have HX := hid X1
  have HR := hid R1
  have HN := hid hnn
  have B := hid b1
  have HW := hid hw1
  have HK := hid hk1
  clear hw1 hk1 X1 b1 hr R1 hnn hR
  go_enter Try.func21, Try.ntmps21
  go_upto_region 1 with fail
  rw [← HW.out, ← HK.out]
  clear HW HK
  go_wp2_with fail
  refine cS.out.mono ?_
  rintro e w2 ⟨⟨lo, ok, rfl, h⟩, b2⟩
  have B2 := hid (bel_on B.out b2)
  have X2 := HX.out.on b2
  have R2 := HR.out.on b2
  have c0 := X2.cell 0 _ rfl
  have l2 := X2.lt
  clear l1 cS HX HR b2 X2
  rcases h with ⟨rfl, r, hrr, hat⟩ | ⟨rfl, hat⟩
  · obtain ⟨gb, go, eg, lg, s0, s1, s2, -⟩ := rn_at R2 hrr
    subst eg
    have hlo : lo < n := by have := (List.getElem?_eq_some_iff.1 hrr).1; have := HN.out; omega
    have mlt : (lo : Int) < (n : Int) := by omega
    have m0 : (0 : Int) ≤ (lo : Int) := by omega
    have E := hid hat
    clear hrr hat R2
    go_wp2
    go_ret2
    exact ⟨by rw [E.out]; rfl, B2.out⟩
  · have E := hid hat
    clear hat R2
    go_wp2
    go_ret2
    exact ⟨by rw [E.out]; rfl, B2.out⟩
set_option maxHeartbeats 1600000 in
set_option maxRecDepth 100000 in
theorem of_string (k : Int) (l : List ByteArray) (ao : Option Addr) (cap : Nat) (w : World) (hl : Row tStr w ao l.length cap l) (h1 : -2147483648 ≤ k) (h2 : k ≤ 2147483648) (h3 : l.length ≤ 1000) (hok : ∀ r ∈ runsF k l, RsOk r) (hokt : ∀ i, ∀ r ∈ runsF k (l.take i), RsOk r) :
    Calls Try.prog 28 #[.int .i64 k, .slice ao l.length cap] w fun e w' => (∃ ao' cap', e = .returned (.agg #[.slice ao' (runsF k l).length cap']) ∧ Row tRs w' ao' (runsF k l).length cap' (runsF k l)) ∧ Below w.heap.size w w' := by
  obtain ⟨w1, hw1⟩ : ∃ W, W = w.alloc (.cells ([.slice none 0 0] : List Value).toArray 58) := ⟨_, rfl⟩
  obtain ⟨k1, hk1⟩ : ∃ k, k = w.heap.size := ⟨_, rfl⟩
  have b1 : Below w.heap.size w w1 := by rw [hw1]; exact bel_alloc _ _
  have X1 : Box w1 k1 [.slice none 0 0] := by rw [hw1, hk1]; exact Box.new w _ _
  have e1 : w1.heap.size = w.heap.size + 1 := by rw [hw1]; simp
  have X := hid (fun (W : World) (b : Below w1.heap.size w1 W) => (⟨X1.on b, bel_on b1 b⟩ : Box W k1 [.slice none 0 0] ∧ Below w.heap.size w W))
  have HL := hid (fun (W : World) (b : Below w1.heap.size w1 W) => hl.on (bel_on b1 b))
  have OK := hid hok
  have OKT := hid hokt
  have HB := hid (show w.heap.size ≤ k1 ∧ k1 < w1.heap.size by omega)
  have HW := hid hw1
  have HK := hid hk1
  have B0 := hid (Below.refl w1.heap.size w1)
  have lm := hl.hmax
  have lc := hl.hcap
  clear hw1 hk1 X1 b1 hl e1 hok hokt
  go_enter Try.func28, Try.ntmps28
  go_upto_region 1 with fail
  rw [← HW.out, ← HK.out]
  clear HW HK
  go_wp2
  go_loopw [5, 10] (fun v i wr => ∃ (V : Value) (i' : Nat) (N : Nat), V = v ∧ i = .int .i64 (i' : Int) ∧ i' ≤ l.length ∧ Hid (N = (runsF k (l.take i')).length) ∧ Hid (wr.ownsRow w1.heap.size 84 3 V N ((runsF k (l.take i')).flatMap rsC)) ∧ Hid (Below w1.heap.size w1 wr)) (fun _ i _ => l.length - (intOf i).toNat)
  case atStart => exact ⟨_, 0, 0, rfl, rfl, Nat.zero_le _, hid rfl, hid (World.ownsRow_nil _ _ _ _), B0⟩
  case round =>
    obtain ⟨V, i', N, rfl, rfl, hi, hN, hO, hb⟩ := hrel
    clear B0
    by_cases hlt : i' < l.length
    · obtain ⟨x, hx⟩ : ∃ x, l[i']? = some x := ⟨_, List.getElem?_eq_getElem hlt⟩
      obtain ⟨b, o, e, lb, q0⟩ := str_at (HL.out wr hb.out) hx
      subst e
      have wk : IntKind.i64.wrap (k + (i' : Int)) = k + (i' : Int) := wrap_l (by unfold I64; omega)
      have NL : N ≤ 1000000 := by
        have := hN.out
        have := runs_len (l.take i') k
        rw [List.length_take] at this
        omega
      have cW := hid (with_string (runsF k (l.take i')) V w1.heap.size N (k + (i' : Int)) (k + (i' : Int)) x wr hN.out hO.out (OKT.out i') hb.out.size NL)
      rw [show withR (runsF k (l.take i')) ⟨k + (i' : Int), k + (i' : Int), x⟩ = runsF k (l.take (i' + 1)) by
        unfold withR
        rw [if_neg (Int.lt_irrefl _)]
        exact (runs_take k l hx).symm] at cW
      have LV := hid (fun j hj => (hO.out.lt j hj).1)
      clear hO hN hx NL
      go_wp2_with fail
      refine cW.out.mono ?_
      rintro e w2 ⟨V2, M, rfl, hM, hO2, hg⟩
      have O2 := hid hO2
      have M2 := hid hM
      have B2 := hid (hb.out.grown hg hb.out.size LV.out)
      clear hO2 hM hg cW
      go_wp2
      go_roundw
      case rel => exact ⟨V2, i' + 1, M, rfl, by simp, by omega, M2, O2, B2⟩
      case measure => simp [intOf]; omega
    · have EA : l.take i' = l := List.take_of_length_le (by omega)
      have oo := hO.out
      have EN := hN.out
      rw [EA] at oo EN
      subst EN
      obtain ⟨ao2, cp, e, -⟩ := row_own (n := 3) (cells := rsC) (ok := RsOk) (hn := fun _ => rfl) oo OK.out
      subst e
      obtain ⟨N, hNN⟩ : ∃ N, N = (runsF k l).length := ⟨_, rfl⟩
      obtain ⟨V, hV⟩ : ∃ V, V = Value.slice ao2 (runsF k l).length cp := ⟨_, rfl⟩
      rw [← hV] at oo ⊢
      have RF := hid (show Row tRs (wr.setCell ⟨k1, 0, none⟩ V) ao2 (runsF k l).length cp (runsF k l) by
        have o2 := other_own oo (k := k1) (i := 0) HB.out.2 V
        obtain ⟨ao3, cp3, e3, R3⟩ := row_own (n := 3) (cells := rsC) (ok := RsOk) (hn := fun _ => rfl) o2 OK.out
        rw [hV] at e3
        simp only [Value.slice.injEq] at e3
        obtain ⟨rfl, -, rfl⟩ := e3
        exact R3)
      have BX := (X.out wr hb.out).1
      have c0 := BX.cell 0 _ rfl
      have f0 := BX.free 0
      have l0 := BX.lt
      have BF := hid ((X.out wr hb.out).2.setCell (p := ⟨k1, 0, none⟩) HB.out.1 V)
      have X7 := hid (show Box (wr.setCell ⟨k1, 0, none⟩ V) k1 [V] from BX.set 0 V)
      subst hV
      clear EA oo hN hO BX hNN
      go_wp2
      refine bodyPost_ret (v := .agg #[.slice ao2 (runsF k l).length cp]) ?_ rfl ⟨⟨ao2, cp, rfl, RF.out⟩, BF.out⟩
      exact Md.results_mid rfl _ _ k1 [.slice ao2 (runsF k l).length cp] _ rfl (fun j u h => by rw [Nat.zero_add]; exact X7.out.cell j u h) Try.underlying58 rfl (by kernel_rfl)
set_option maxHeartbeats 1600000 in
theorem count_string (N : Nat) (ao : Option Addr) (cap : Nat) (w : World) :
    Calls Try.prog 31 #[.agg #[.slice ao N cap]] w fun e w' => e = .returned (.int .i64 (N : Int)) ∧ Below w.heap.size w w' := by
  obtain ⟨w1, hw1⟩ : ∃ W, W = w.alloc (.cells ([.slice ao N cap] : List Value).toArray 58) := ⟨_, rfl⟩
  obtain ⟨k1, hk1⟩ : ∃ k, k = w.heap.size := ⟨_, rfl⟩
  have b1 : Below w.heap.size w w1 := by rw [hw1]; exact bel_alloc _ _
  have X1 : Box w1 k1 [.slice ao N cap] := by rw [hw1, hk1]; exact Box.new w _ _
  have c0 := X1.cell 0 _ rfl
  have l1 := X1.lt
  have B := hid b1
  have HW := hid hw1
  have HK := hid hk1
  clear hw1 hk1 X1 b1
  go_enter Try.func31, Try.ntmps31
  go_upto_region 1 with fail
  rw [← HW.out, ← HK.out]
  clear HW HK
  go_wp2
  go_ret
  exact ⟨rfl, B.out⟩
/-- On which side of a number a run lies. -/
def sideS_string (r : Rn ByteArray) (x : Int) : Int := if r.b < x then -1 else if x < r.a then 1 else 0
set_option maxHeartbeats 1600000 in
theorem side_string (r : Rn ByteArray) (x : Int) (w : World) :
    Calls Try.prog 47 #[.agg #[.int .i64 r.a, .int .i64 r.b, .string r.v], .int .i64 x] w fun e w' => e = .returned (.int .i64 (sideS_string r x)) ∧ Below w.heap.size w w' := by
  obtain ⟨w1, hw1⟩ : ∃ W, W = w.alloc (.cells ([.int .i64 r.a, .int .i64 r.b, .string r.v] : List Value).toArray 84) := ⟨_, rfl⟩
  obtain ⟨k1, hk1⟩ : ∃ k, k = w.heap.size := ⟨_, rfl⟩
  have b1 : Below w.heap.size w w1 := by rw [hw1]; exact bel_alloc _ _
  have X1 : Box w1 k1 [.int .i64 r.a, .int .i64 r.b, .string r.v] := by rw [hw1, hk1]; exact Box.new w _ _
  have c0 := X1.cell 0 _ rfl
  have c1 := X1.cell 1 _ rfl
  have l1 := X1.lt
  have B := hid b1
  have HW := hid hw1
  have HK := hid hk1
  clear hw1 hk1 X1 b1
  by_cases hb : r.b < x
  · have z : decide (r.b < x) = true := decide_eq_true hb
    have E := hid (show sideS_string r x = -1 by unfold sideS_string; rw [if_pos hb])
    clear hb
    go_enter Try.func47, Try.ntmps47
    go_upto_region 1 with fail
    rw [← HW.out, ← HK.out]
    clear HW HK
    go_wp2
    go_ret
    exact ⟨by rw [E.out]; rfl, B.out⟩
  · have z : decide (r.b < x) = false := decide_eq_false hb
    by_cases ha : x < r.a
    · have z2 : decide (x < r.a) = true := decide_eq_true ha
      have E := hid (show sideS_string r x = 1 by unfold sideS_string; rw [if_neg hb, if_pos ha])
      clear hb ha
      go_enter Try.func47, Try.ntmps47
      go_upto_region 1 with fail
      rw [← HW.out, ← HK.out]
      clear HW HK
      go_wp2
      go_ret
      exact ⟨by rw [E.out]; rfl, B.out⟩
    · have z2 : decide (x < r.a) = false := decide_eq_false ha
      have E := hid (show sideS_string r x = 0 by unfold sideS_string; rw [if_neg hb, if_neg ha])
      clear hb ha
      go_enter Try.func47, Try.ntmps47
      go_upto_region 1 with fail
      rw [← HW.out, ← HK.out]
      clear HW HK
      go_wp2
      go_ret
      exact ⟨by rw [E.out]; rfl, B.out⟩
set_option maxHeartbeats 1600000 in
set_option maxRecDepth 100000 in
/-- The search: where the first run stands that isn't below a number, and whether it holds that. -/
theorem search_string (k x : Int) (l : List ByteArray) (ao : Option Addr) (cap : Nat) (w : World) (hr : Row tRs w ao (runsF k l).length cap (runsF k l)) (hn : (runsF k l).length ≤ 100000) :
    Calls Try.prog 46 #[.slice ao (runsF k l).length cap, .int .i64 x, .func (.func 47) #[] #[]] w fun e w' => Srch k x l (runsF k l) e ∧ Below w.heap.size w w' := by
  obtain ⟨R, hR⟩ : ∃ R, R = runsF k l := ⟨_, rfl⟩
  obtain ⟨n, hnn⟩ : ∃ n, n = R.length := ⟨_, rfl⟩
  have CH := hid (show chainR k R by rw [hR]; exact chain_runs l k)
  have FI := hid (show ∀ lo : Nat, (∀ j r, j < lo → R[j]? = some r → r.b < x) → (∀ j r, lo ≤ j → R[j]? = some r → x ≤ r.b) → (∀ r, R[lo]? = some r → x < r.a) → atL k l x = none by rw [hR]; exact fun lo => find_run)
  have AR := hid (show ∀ (i : Nat) (r : Rn ByteArray), R[i]? = some r → r.a ≤ x → x ≤ r.b → atL k l x = some r.v by rw [hR]; exact fun i r => at_run)
  have HR := hid (fun (W : World) (b : Below w.heap.size w W) => hr.on b)
  rw [← hR] at HR hn hr ⊢
  have lm := hr.hmax
  have lc := hr.hcap
  rw [← hnn] at HR hn lc ⊢
  have HN := hid hnn
  have B0 := hid (Below.refl w.heap.size w)
  clear hr hnn hR
  go_enter Try.func46, Try.ntmps46
  go_wp2
  go_loopw [9, 10] (fun i j wr => ∃ (lo hi : Nat), i = .int .i64 (lo : Int) ∧ j = .int .i64 (hi : Int) ∧ lo ≤ hi ∧ hi ≤ n ∧ Hid (∀ j r, j < lo → R[j]? = some r → r.b < x) ∧ Hid (∀ j r, hi ≤ j → R[j]? = some r → x ≤ r.b) ∧ Hid (Below w.heap.size w wr)) (fun i j _ => (intOf j).toNat - (intOf i).toNat)
  case atStart => exact ⟨0, n, rfl, rfl, Nat.zero_le _, Nat.le_refl _, hid (fun j r h => absurd h (Nat.not_lt_zero _)), hid (fun j r h e => by rw [List.getElem?_eq_none (by have := HN.out; omega)] at e; cases e), B0⟩
  case round =>
    obtain ⟨lo, hi, rfl, rfl, hlh, hhn, hL, hH, hb⟩ := hrel
    clear B0
    by_cases hlt : lo < hi
    · have w1 : IntKind.i64.wrap ((lo : Int) + (hi : Int)) = (lo : Int) + (hi : Int) := wrap_l (by unfold I64; omega)
      have w2 : IntKind.u64.wrap ((lo : Int) + (hi : Int)) = (lo : Int) + (hi : Int) := by rw [IntKind.wrap_u64]; omega
      obtain ⟨m, hm⟩ : ∃ m, m = (lo + hi) / 2 := ⟨_, rfl⟩
      have w3 : ((lo : Int) + (hi : Int)) / 2 = (m : Int) := by omega
      have w4 : IntKind.i64.wrap (m : Int) = (m : Int) := wrap_l (by unfold I64; omega)
      have w5 : IntKind.u64.wrap (m : Int) = (m : Int) := by rw [IntKind.wrap_u64]; omega
      have w6 : IntKind.i64.wrap ((m : Int) + 1) = (m : Int) + 1 := wrap_l (by unfold I64; omega)
      obtain ⟨r, hr⟩ : ∃ r, R[m]? = some r := ⟨_, List.getElem?_eq_getElem (by have := HN.out; omega)⟩
      obtain ⟨gb, go, eg, lg, s0, s1, s2, -⟩ := rs_at (HR.out wr hb.out) hr
      subst eg
      have cS := hid (side_string r x wr)
      have mlt : (m : Int) < (n : Int) := by omega
      have m0 : (0 : Int) ≤ (m : Int) := by omega
      by_cases hrb : r.b < x
      · have z : decide (sideS_string r x < 0) = true := by unfold sideS_string; rw [if_pos hrb]; rfl
        obtain ⟨sd, hsd⟩ : ∃ s, s = sideS_string r x := ⟨_, rfl⟩
        rw [← hsd] at z cS
        have NL := hid (show ∀ j r, j < m + 1 → R[j]? = some r → r.b < x from fun j s hj hs => by
          rcases Nat.lt_or_ge j m with q | q
          · have g1 := chain_lt CH.out q hs hr
            have g2 := chain_in R k CH.out r (List.mem_of_getElem? hr)
            omega
          · obtain rfl : j = m := by omega
            rw [hr] at hs
            obtain rfl := Option.some.inj hs
            exact hrb)
        have hm1 : lo ≤ m ∧ m < hi := by omega
        clear hsd hrb hm hr
        go_wp2_with fail
        refine cS.out.mono ?_
        rintro e wz ⟨rfl, hbz⟩
        have BZ := hid (bel_on hb.out hbz)
        clear cS hbz
        go_wp2
        go_roundw
        case rel => exact ⟨m + 1, hi, by simp, rfl, by omega, hhn, NL, hH, BZ⟩
        case measure => simp [intOf]; omega
      · have z : decide (sideS_string r x < 0) = false := by
          unfold sideS_string
          rw [if_neg hrb]
          split <;> rfl
        obtain ⟨sd, hsd⟩ : ∃ s, s = sideS_string r x := ⟨_, rfl⟩
        rw [← hsd] at z cS
        have NH := hid (show ∀ j r, m ≤ j → R[j]? = some r → x ≤ r.b from fun j s hj hs => by
          rcases Nat.lt_or_ge m j with q | q
          · have g1 := chain_lt CH.out q hr hs
            have g2 := chain_in R k CH.out s (List.mem_of_getElem? hs)
            omega
          · obtain rfl : j = m := by omega
            rw [hr] at hs
            obtain rfl := Option.some.inj hs
            omega)
        have hm1 : lo ≤ m ∧ m < hi := by omega
        clear hsd hrb hm hr
        go_wp2_with fail
        refine cS.out.mono ?_
        rintro e wz ⟨rfl, hbz⟩
        have BZ := hid (bel_on hb.out hbz)
        clear cS hbz
        go_wp2
        go_roundw
        case rel => exact ⟨lo, m, rfl, rfl, by omega, by omega, hL, NH, BZ⟩
        case measure => simp [intOf]; omega
    · obtain rfl : lo = hi := by omega
      by_cases hln : lo < n
      · obtain ⟨r, hr⟩ : ∃ r, R[lo]? = some r := ⟨_, List.getElem?_eq_getElem (by have := HN.out; omega)⟩
        obtain ⟨gb, go, eg, lg, s0, s1, s2, -⟩ := rs_at (HR.out wr hb.out) hr
        subst eg
        have cS := hid (side_string r x wr)
        have mlt : (lo : Int) < (n : Int) := by omega
        have m0 : (0 : Int) ≤ (lo : Int) := by omega
        have xb := hH.out lo r (Nat.le_refl _) hr
        by_cases hra : r.a ≤ x
        · have z : (sideS_string r x == 0) = true := by unfold sideS_string; rw [if_neg (by omega), if_neg (by omega)]; rfl
          obtain ⟨sd, hsd⟩ : ∃ s, s = sideS_string r x := ⟨_, rfl⟩
          rw [← hsd] at z cS
          have FV := hid (AR.out lo r hr hra xb)
          have HRR := hid hr
          clear hsd hra hr xb
          go_wp2_with fail
          refine cS.out.mono ?_
          rintro e wz ⟨rfl, hbz⟩
          have BZ := hid (bel_on hb.out hbz)
          clear cS hbz
          go_wp2
          go_ret2
          exact ⟨srch_yes (lo := lo) (r := r) rfl HRR.out FV.out, BZ.out⟩
        · have z : (sideS_string r x == 0) = false := by unfold sideS_string; rw [if_neg (by omega), if_pos (by omega)]; rfl
          obtain ⟨sd, hsd⟩ : ∃ s, s = sideS_string r x := ⟨_, rfl⟩
          rw [← hsd] at z cS
          have FV := hid (FI.out lo hL.out hH.out (fun s hs => by rw [hr] at hs; obtain rfl := Option.some.inj hs; omega))
          clear hsd hra hr xb
          go_wp2_with fail
          refine cS.out.mono ?_
          rintro e wz ⟨rfl, hbz⟩
          have BZ := hid (bel_on hb.out hbz)
          clear cS hbz
          go_wp2
          go_ret2
          exact ⟨srch_no lo rfl FV.out, BZ.out⟩
      · have z9 : ¬ (lo : Int) < (n : Int) := by omega
        have FV := hid (FI.out lo hL.out hH.out (fun s hs => by rw [List.getElem?_eq_none (by have := HN.out; omega)] at hs; cases hs))
        go_wp2
        go_ret2
        exact ⟨srch_no lo rfl FV.out, hb.out⟩
set_option maxHeartbeats 1600000 in
set_option maxRecDepth 100000 in
theorem at_string (k x : Int) (l : List ByteArray) (ao : Option Addr) (cap : Nat) (w : World) (hr : Row tRs w ao (runsF k l).length cap (runsF k l)) (hn : (runsF k l).length ≤ 100000) :
    Calls Try.prog 32 #[.agg #[.slice ao (runsF k l).length cap], .int .i64 x] w fun e w' => e = .returned (.tuple #[.string ((atL k l x).getD ⟨#[]⟩), .bool (atL k l x).isSome]) ∧ Below w.heap.size w w' := by
  obtain ⟨w1, hw1⟩ : ∃ W, W = w.alloc (.cells ([.slice ao (runsF k l).length cap] : List Value).toArray 58) := ⟨_, rfl⟩
  obtain ⟨k1, hk1⟩ : ∃ k, k = w.heap.size := ⟨_, rfl⟩
  have b1 : Below w.heap.size w w1 := by rw [hw1]; exact bel_alloc _ _
  have X1 : Box w1 k1 [.slice ao (runsF k l).length cap] := by rw [hw1, hk1]; exact Box.new w _ _
  have R1 := hr.on b1
  have cS := hid (search_string k x l ao cap w1 R1 hn)
  obtain ⟨R, hR⟩ : ∃ R, R = runsF k l := ⟨_, rfl⟩
  rw [← hR] at cS R1 X1 hr hn hw1 ⊢
  have lm := hr.hmax
  have lc := hr.hcap
  obtain ⟨n, hnn⟩ : ∃ n, n = R.length := ⟨_, rfl⟩
  rw [← hnn] at cS R1 X1 hn lc hw1 ⊢
  have c0 := X1.cell 0 _ rfl
  have l1 := X1.lt
  have HX := hid X1
  have HR := hid R1
  have HN := hid hnn
  have B := hid b1
  have HW := hid hw1
  have HK := hid hk1
  clear hw1 hk1 X1 b1 hr R1 hnn hR
  go_enter Try.func32, Try.ntmps32
  go_upto_region 1 with fail
  rw [← HW.out, ← HK.out]
  clear HW HK
  go_wp2_with fail
  refine cS.out.mono ?_
  rintro e w2 ⟨⟨lo, ok, rfl, h⟩, b2⟩
  have B2 := hid (bel_on B.out b2)
  have X2 := HX.out.on b2
  have R2 := HR.out.on b2
  have c0 := X2.cell 0 _ rfl
  have l2 := X2.lt
  clear l1 cS HX HR b2 X2
  rcases h with ⟨rfl, r, hrr, hat⟩ | ⟨rfl, hat⟩
  · obtain ⟨gb, go, eg, lg, s0, s1, s2, -⟩ := rs_at R2 hrr
    subst eg
    have hlo : lo < n := by have := (List.getElem?_eq_some_iff.1 hrr).1; have := HN.out; omega
    have mlt : (lo : Int) < (n : Int) := by omega
    have m0 : (0 : Int) ≤ (lo : Int) := by omega
    have E := hid hat
    clear hrr hat R2
    go_wp2
    go_ret2
    exact ⟨by rw [E.out]; rfl, B2.out⟩
  · have E := hid hat
    clear hat R2
    go_wp2
    go_ret2
    exact ⟨by rw [E.out]; rfl, B2.out⟩
end Go.Proofs.Ytghhnimimccpoaa.Li
