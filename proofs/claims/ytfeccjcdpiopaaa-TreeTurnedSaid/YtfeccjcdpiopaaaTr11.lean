/- Package tree, walked: charges without places. -/
import Derived.Test.YtfeccjcdpiopaaaTr10
namespace Go.Proofs.Ytfeccjcdpiopaaa.Te
open Go.RowKit Go.Sort P Mm R6 Tl L06

/-- Charges in the making, and their rows. -/
def rhoC (g n : Nat) (zs : List (Charge × Hd)) (Z : List Value) : Slot → Option R
  | .c => some ⟨46, 16, some ⟨g, 0, none⟩, n, n, zs.flatMap zC ++ Z⟩
  | .t i => (zs[i]?).map fun x => ⟨49, 2, x.2.ta, x.1.tiers.length, x.2.tc, x.1.tiers.flatMap tierC⟩
  | .a i => (zs[i]?).map fun x => ⟨51, 3, x.2.aa, x.1.adjusts.length, x.2.ac, x.1.adjusts.flatMap adjC⟩
  | _ => none
theorem only_c {g n : Nat} {Z : List Value} {s : Slot} {r : R} (h : rhoC g n [] Z s = some r) : s = .c := by
  cases s with
  | c => rfl
  | m => cases h
  | f => cases h
  | t i => simp [rhoC] at h
  | a i => simp [rhoC] at h
theorem push_get {α : Type} {zs : List α} {y : α} {i : Nat} {x : α} (h : (zs ++ [y])[i]? = some x) : zs[i]? = some x ∨ (i = zs.length ∧ x = y) := by
  by_cases hi : i < zs.length
  · rw [List.getElem?_append_left hi] at h
    exact .inl h
  · rw [List.getElem?_append_right (by omega)] at h
    by_cases e : i = zs.length
    · subst e
      simp at h
      exact .inr ⟨rfl, h.symm⟩
    · rw [List.getElem?_eq_none (by simp; omega)] at h
      cases h
/-- A slot of a row with one charge more: an old one, or one of the new charge's two. -/
theorem slot_cases {g n : Nat} {zs : List (Charge × Hd)} {Z Z' : List Value} {c : Charge} {hd : Hd} {s : Slot} {r : R} (h : rhoC g n (zs ++ [(c, hd)]) Z' s = some r) :
    (∃ r0, rhoC g n zs Z s = some r0 ∧ r0.v = r.v ∧ (s ≠ .c → r0 = r)) ∨
    (s = .t zs.length ∧ r = ⟨49, 2, hd.ta, c.tiers.length, hd.tc, c.tiers.flatMap tierC⟩) ∨ (s = .a zs.length ∧ r = ⟨51, 3, hd.aa, c.adjusts.length, hd.ac, c.adjusts.flatMap adjC⟩) := by
  cases s with
  | m => cases h
  | f => cases h
  | c =>
    obtain rfl := (Option.some.inj h).symm
    exact .inl ⟨_, rfl, rfl, fun k => absurd rfl k⟩
  | t i =>
    obtain ⟨x, hx, rfl⟩ := Option.map_eq_some_iff.1 h
    rcases push_get hx with k | ⟨rfl, rfl⟩
    · exact .inl ⟨_, by show Option.map _ (zs[i]?) = _; rw [k]; rfl, rfl, fun _ => rfl⟩
    · exact .inr (.inl ⟨rfl, rfl⟩)
  | a i =>
    obtain ⟨x, hx, rfl⟩ := Option.map_eq_some_iff.1 h
    rcases push_get hx with k | ⟨rfl, rfl⟩
    · exact .inl ⟨_, by show Option.map _ (zs[i]?) = _; rw [k]; rfl, rfl, fun _ => rfl⟩
    · exact .inr (.inr ⟨rfl, rfl⟩)
theorem owns_step {w w2 : World} {base g n S : Nat} {zs : List (Charge × Hd)} {Z : List Value} {c : Charge} {hd : Hd} (h : Owns w base (rhoC g n zs Z)) (hb : Below w.heap.size w w2) (hS : w.heap.size ≤ S) (hn : zs.length < n)
    (ot : w2.ownsRow S 49 2 (.slice hd.ta c.tiers.length hd.tc) c.tiers.length (c.tiers.flatMap tierC)) (oa : w2.ownsRow S 51 3 (.slice hd.aa c.adjusts.length hd.ac) c.adjusts.length (c.adjusts.flatMap adjC))
    (ap : ∀ k, (Value.slice hd.ta c.tiers.length hd.tc).ownBlock = some k → (Value.slice hd.aa c.adjusts.length hd.ac).ownBlock ≠ some k) :
    ∃ Z', Owns (w2.setCells g (zs.length * 16) (zC (c, hd))) base (rhoC g n (zs ++ [(c, hd)]) Z') := by
  have h2 := h.on hb
  have oc := h2.own .c _ rfl
  obtain ⟨gb, gl⟩ := (h.own .c _ rfl).lt g rfl
  obtain ⟨Z', k1, kg⟩ := own_push (C := zC) (size := 16) zC_len oc hn (c, hd)
  have oth := h2.others (s := .c) rfl kg
  have far : ∀ (r : R) (k : Nat) (s : Slot), rhoC g n zs Z s = some r → r.v.ownBlock = some k → k < S := fun r k s hs hk => Nat.lt_of_lt_of_le ((h.own s r hs).lt k hk).2 hS
  refine ⟨Z', ⟨fun s r hs => ?_, fun s t r r' k hs ht hk hk' => ?_⟩⟩
  · rcases slot_cases (Z := Z) hs with ⟨r0, e0, e1, e2⟩ | ⟨rfl, rfl⟩ | ⟨rfl, rfl⟩
    · by_cases hc : s = .c
      · subst hc
        obtain rfl := (Option.some.inj hs).symm
        exact k1
      · obtain rfl := e2 hc
        exact oth s r0 hc e0
    · refine (ot.kept kg ?_).mono (by omega)
      cases hob : (Value.slice hd.ta c.tiers.length hd.tc).ownBlock with
      | none => exact .inl rfl
      | some k =>
        refine .inr (fun e => ?_)
        have := (ot.lt k hob).1
        have := Option.some.inj e
        omega
    · refine (oa.kept kg ?_).mono (by omega)
      cases hob : (Value.slice hd.aa c.adjusts.length hd.ac).ownBlock with
      | none => exact .inl rfl
      | some k =>
        refine .inr (fun e => ?_)
        have := (oa.lt k hob).1
        have := Option.some.inj e
        omega
  · rcases slot_cases (Z := Z) hs with ⟨r0, e0, e1, _⟩ | ⟨rfl, rfl⟩ | ⟨rfl, rfl⟩ <;> rcases slot_cases (Z := Z) ht with ⟨r1, f0, f1, _⟩ | ⟨rfl, rfl⟩ | ⟨rfl, rfl⟩
    · exact h.apart s t r0 r1 k e0 f0 (by rw [e1]; exact hk) (by rw [f1]; exact hk')
    · have := far r0 k s e0 (by rw [e1]; exact hk)
      have := (ot.lt k hk').1
      omega
    · have := far r0 k s e0 (by rw [e1]; exact hk)
      have := (oa.lt k hk').1
      omega
    · have := far r1 k t f0 (by rw [f1]; exact hk')
      have := (ot.lt k hk).1
      omega
    · rfl
    · exact absurd hk' (ap k hk)
    · have := far r1 k t f0 (by rw [f1]; exact hk')
      have := (oa.lt k hk).1
      omega
    · exact absurd hk (ap k hk')
    · rfl
set_option maxHeartbeats 4000000 in
set_option maxRecDepth 100000 in
theorem turnedC_any (xs : List Charge) (ma : Option Addr) (mc : Nat) (w : World) (hx : Row tCharge w ma xs.length mc xs) (hl : xs.length ≤ 100000) (hq : ∀ c ∈ xs, c.tiers.length ≤ 100000 ∧ c.adjusts.length ≤ 100000) :
    Calls Try.prog 26 #[.slice ma xs.length mc, .func (.func 27) #[] #[]] w fun e w' => ∃ zs, e = .returned (.slice (some ⟨w.heap.size, 0, none⟩) xs.length xs.length) ∧ zs.map Prod.fst = xs.map nC ∧ Owns w' w.heap.size (rhoC w.heap.size xs.length zs []) ∧ Below w.heap.size w w' := by
  obtain ⟨n, hn⟩ : ∃ n, n = xs.length := ⟨_, rfl⟩
  rw [← hn] at hx hl ⊢
  have HX := hid hx
  have HN := hid hn
  have HQ := hid hq
  clear hx hn hq
  obtain ⟨ti, hi, hz0, hz1, hz2⟩ := info_parts info_charge
  go_enter Try.func26, Try.ntmps26
  go_wp2_with (at_make; refine wpList_make_full _ rfl _ _ 26 rfl w.heap.size 46 ti (.agg (chargeC k0 none 0 none 0).toArray) 16 Try.underlying26 hi hz0 hz1 _ _ _ _ n rfl rfl rfl rfl ?b2 ?b3 ?b4 ?_)
  case b2 => rw [hz2]; omega
  case b3 => unfold maxLen; omega
  case b4 => exact Nat.le_refl _
  intro w1 hown hgrow
  have hb1 : Below w.heap.size w w1 := (Below.refl _ w).grown hgrow (Nat.le_refl _) (by intro k hk; cases hk)
  obtain ⟨g, hg⟩ : ∃ g, g = w.heap.size := ⟨_, rfl⟩
  have HO : Hid (∃ zs Z, zs.map Prod.fst = (xs.take 0).map nC ∧ Owns w1 g (rhoC g n zs Z)) := hid (by
    refine ⟨[], (madeCells (chargeC k0 none 0 none 0).toArray (n * 16)).toList, rfl, ⟨fun s r hs => ?_, fun s t r r' k hs ht _ _ => ?_⟩⟩
    · cases s with
      | c =>
        obtain rfl := (Option.some.inj hs).symm
        rw [hg]
        exact hown
      | m => cases hs
      | f => cases hs
      | t i => simp [rhoC] at hs
      | a i => simp [rhoC] at hs
    · exact (only_c hs).trans (only_c ht).symm)
  rw [← hg]
  have HG := hid hg
  have HB1 := hid hb1
  clear hown hgrow hg hb1 hi hz0 hz1 hz2
  go_wp2
  go_loopw [13] (fun i wr => ∃ i' : Int, i = .int .i64 i' ∧ 0 ≤ i' ∧ i' ≤ n ∧ Hid (∃ zs Z, zs.map Prod.fst = (xs.take i'.toNat).map nC ∧ Owns wr g (rhoC g n zs Z)) ∧ Hid (Below w.heap.size w wr)) (fun i _ => ((n : Int) - intOf i).toNat)
  case atStart => exact ⟨0, rfl, by omega, by omega, HO, HB1⟩
  case round =>
    obtain ⟨i', rfl, i0, i1, ho, hb⟩ := hrel
    clear HO HB1
    by_cases hlt : i' < n
    · obtain ⟨x, tx⟩ : ∃ x, xs[i'.toNat]? = some x := ⟨_, List.getElem?_eq_getElem (by have := HN.out; omega)⟩
      obtain ⟨bx, ox, ta, tc, aa, ac, e, ax, lx⟩ := charge_at (HX.out.on hb.out) tx
      subst e
      obtain ⟨q1, q2⟩ := HQ.out x (List.mem_of_getElem? tx)
      have lbx := ax.lt
      have cS := fun W (h : Below wr.heap.size wr W) => plainCharge_any x ta tc aa ac W (lies_on lx h) q1 q2
      have r1 := hid (range_box ax)
      have r2 := hid (range_new wr (chargeC x ta tc aa ac) 46)
      have BW := hid (bel_alloc wr (.cells (chargeC x ta tc aa ac).toArray 46))
      have TX := hid tx
      clear tx ax lx q1 q2
      unfold chargeC at r1 r2 BW cS
      go_wp2_with (first
        | (with_reducible refine wpList_load_mid (op := Oper.mk (some 17) (Op.load 46 (Operand.tmp 16)) _ _ _ _) ?_ 46 (.tmp 16) ?_ bx (ox + i'.toNat * 16) ?_ [.string x.meter, .bool x.win.has, .int .i64 x.win.a.y, .int .i64 x.win.a.m, .int .i64 x.win.a.d, .int .i64 x.win.b.y, .int .i64 x.win.b.m, .int .i64 x.win.b.d, .int .i64 x.allowance, .int .i64 x.block, .int .i64 x.kind, .slice ta x.tiers.length tc, .int .i64 x.mode, .slice aa x.adjusts.length ac, .int .i64 x.line, .int .i64 x.col] _ r1.out Try.underlying46 ?_ ?_ ?_; rfl; rfl; go_simp; rfl; kernel_rfl)
        | (with_reducible refine wpList_store_new (op := Oper.mk none (Op.store 46 (Operand.tmp 7) (Operand.tmp 17)) _ _ _ _) ?_ 46 (.tmp 7) (.tmp 17) ?_ wr _ #[.string x.meter, .bool x.win.has, .int .i64 x.win.a.y, .int .i64 x.win.a.m, .int .i64 x.win.a.d, .int .i64 x.win.b.y, .int .i64 x.win.b.m, .int .i64 x.win.b.d, .int .i64 x.allowance, .int .i64 x.block, .int .i64 x.kind, .slice ta x.tiers.length tc, .int .i64 x.mode, .slice aa x.adjusts.length ac, .int .i64 x.line, .int .i64 x.col] ?_ ?_ ?_ ?_ ?_ ?_; rfl; rfl; go_simp; go_simp; kernel_rfl; rfl; (simp [Value.oneCell']))
        | (with_reducible refine wpList_load_mid (op := Oper.mk (some 21) (Op.load 46 (Operand.tmp 7)) _ _ _ _) ?_ 46 (.tmp 7) ?_ wr.heap.size 0 ?_ [.string x.meter, .bool x.win.has, .int .i64 x.win.a.y, .int .i64 x.win.a.m, .int .i64 x.win.a.d, .int .i64 x.win.b.y, .int .i64 x.win.b.m, .int .i64 x.win.b.d, .int .i64 x.allowance, .int .i64 x.block, .int .i64 x.kind, .slice ta x.tiers.length tc, .int .i64 x.mode, .slice aa x.adjusts.length ac, .int .i64 x.line, .int .i64 x.col] _ r2.out Try.underlying46 ?_ ?_ ?_; rfl; rfl; go_simp; rfl; kernel_rfl)
        | fail)
      refine (cS _ BW.out).mono ?_
      rintro e w2 ⟨⟨hta, htc, haa, hac⟩, rfl, ot, oa, ap, b2⟩
      have b3 := bel_on BW.out b2
      obtain ⟨zs, Z, hz, ho⟩ := ho.out
      have hzl : zs.length = i'.toNat := by
        have := congrArg List.length hz
        rw [List.length_map, List.length_map, List.length_take] at this
        have := HN.out
        omega
      have ox2 : w2.ownsRow g 46 16 (.slice (some ⟨g, 0, none⟩) n n) n (zs.flatMap zC ++ Z) := (ho.on b3).own .c _ rfl
      have th := there_push (C := zC) (size := 16) ox2 (by omega)
      rw [hzl] at th
      have TH := hid th
      have HB := hid (bel_on hb.out b3)
      obtain ⟨Z', hs⟩ := owns_step (c := nC x) (hd := ⟨hta, htc, haa, hac⟩) ho b3 BW.out.size (by omega) ot oa ap
      rw [hzl] at hs
      have KEY : Hid (∃ zs Z, zs.map Prod.fst = (xs.take (i' + 1).toNat).map nC ∧ Owns (w2.setCells g (i'.toNat * 16) [.string x.meter, .bool x.win.has, .int .i64 x.win.a.y, .int .i64 x.win.a.m, .int .i64 x.win.a.d, .int .i64 x.win.b.y, .int .i64 x.win.b.m, .int .i64 x.win.b.d, .int .i64 x.allowance, .int .i64 x.block, .int .i64 x.kind, .slice hta x.tiers.length htc, .int .i64 x.mode, .slice haa x.adjusts.length hac, .int .i64 0, .int .i64 0]) g (rhoC g n zs Z)) := hid ⟨_, Z', by
        rw [show (i' + 1).toNat = i'.toNat + 1 by omega, List.take_add_one, TX.out, List.map_append, List.map_append, hz]
        rfl, hs⟩
      clear cS b2 b3 ho ox2 th hb lbx r1 r2 BW hz hzl hs ot oa ap Z' zs Z
      unfold nC
      go_wp2_with (first
        | (with_reducible refine wpList_store_mid (op := Oper.mk none (Op.store 46 (Operand.tmp 23) (Operand.tmp 22)) _ _ _ _) ?_ 46 (.tmp 23) (.tmp 22) ?_ g (i'.toNat * 16) #[.string x.meter, .bool x.win.has, .int .i64 x.win.a.y, .int .i64 x.win.a.m, .int .i64 x.win.a.d, .int .i64 x.win.b.y, .int .i64 x.win.b.m, .int .i64 x.win.b.d, .int .i64 x.allowance, .int .i64 x.block, .int .i64 x.kind, .slice hta x.tiers.length htc, .int .i64 x.mode, .slice haa x.adjusts.length hac, .int .i64 0, .int .i64 0] ?_ ?_ ?_ ?_ ?_ ?_; rfl; rfl; go_simp; go_simp; (simpa using TH.out); kernel_rfl; (simp [Value.oneCell']))
        | fail)
      have HB2 : Hid (Below w.heap.size w (w2.setCells g (i'.toNat * 16) [.string x.meter, .bool x.win.has, .int .i64 x.win.a.y, .int .i64 x.win.a.m, .int .i64 x.win.a.d, .int .i64 x.win.b.y, .int .i64 x.win.b.m, .int .i64 x.win.b.d, .int .i64 x.allowance, .int .i64 x.block, .int .i64 x.kind, .slice hta x.tiers.length htc, .int .i64 x.mode, .slice haa x.adjusts.length hac, .int .i64 0, .int .i64 0])) := hid (Below.setRow _ _ _ HB.out (by rw [HG.out]; exact Nat.le_refl _))
      go_wp2
      go_roundw
      case rel => exact ⟨i' + 1, rfl, by omega, by omega, KEY, HB2⟩
      case measure => simp [intOf]; omega
    · obtain rfl : i' = n := by omega
      go_wp2
      go_ret
      obtain ⟨zs, Z, hz, ho⟩ := ho.out
      have hn := HN.out
      rw [List.take_of_length_le (by omega)] at hz
      have hzl : zs.length = n := by
        have := congrArg List.length hz
        rw [List.length_map, List.length_map] at this
        omega
      have hzz : Z = [] := by
        have hl := (ho.own .c _ rfl).1
        have hA : (zs.flatMap zC).length = zs.length * 16 := flat_len (f := zC) (n := 16) zC_len _
        change (zs.flatMap zC ++ Z).length = n * 16 at hl
        rw [List.length_append, hA, hzl] at hl
        exact List.eq_nil_of_length_eq_zero (by omega)
      subst hzz
      refine ⟨?_, zs, hz, ?_, hb.out⟩
      · rw [← HG.out]; rfl
      · rw [← HG.out]; exact ho
end Go.Proofs.Ytfeccjcdpiopaaa.Te
