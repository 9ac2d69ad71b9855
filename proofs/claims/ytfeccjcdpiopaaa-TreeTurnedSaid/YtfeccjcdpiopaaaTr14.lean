/- Package tree, walked: Names; and all that package tree answers. -/
import Derived.Test.YtfeccjcdpiopaaaTr13
import Derived.Test.YtfeccjcdpiopaaaTr6
namespace Go.Proofs.Ytfeccjcdpiopaaa.Te
open Go.RowKit Go.Sort P Mm R6 Tl L06

theorem info_str : (Try.prog.info? 9).map (fun i => (i.zero, i.size, i.bytes)) = some (some (.string ⟨#[]⟩), 1, 16) := by kernel_rfl
set_option maxHeartbeats 4000000 in
set_option maxRecDepth 100000 in
theorem names_any (p : Plan) (ma : Option Addr) (mc : Nat) (fa : Option Addr) (fc : Nat) (ca : Option Addr) (cc : Nat) (w : World) (hl : p.meters.length ≤ 1000) (hp : PlanLies w (planC p ma mc fa fc ca cc) p ma mc fa fc ca cc) :
    Calls Try.prog 15 #[.agg (planC p ma mc fa fc ca cc).toArray] w fun e w' => ∃ ao cap l, e = .returned (.slice ao l.length cap) ∧ Row tS w' ao l.length cap l ∧ l.Perm (p.meters.map fun m => m.name) ∧ Rising l ∧ Below w.heap.size w w' := by
  obtain ⟨xs, hxs⟩ : ∃ xs, xs = p.meters := ⟨_, rfl⟩
  obtain ⟨n, hn⟩ : ∃ n, n = xs.length := ⟨_, rfl⟩
  obtain ⟨w0, hw0⟩ : ∃ w0, w0 = w.alloc (.cells (planC p ma mc fa fc ca cc).toArray 28) := ⟨_, rfl⟩
  have b0 : Below w.heap.size w w0 := by rw [hw0]; exact bel_alloc ..
  have s0 : w.heap.size < w0.heap.size := by rw [hw0]; simp
  have K : Hid (∀ W, Below w0.heap.size w0 W → W.cell? ⟨w.heap.size, 8, none⟩ = some (.slice ma n mc)) := hid fun W hb => by
    rw [hb.cell s0, hw0, hn, hxs]
    exact cell1 rfl
  have hx := hp.meters.on b0
  rw [← hxs, ← hn] at hx
  rw [← hxs, ← hn] at hl
  rw [← hxs]
  have HX := hid hx
  have HN := hid hn
  have HW0 := hid hw0
  have HB0 := hid b0
  have HXS := hid hxs
  clear hx hn hw0 b0 hxs hp
  obtain ⟨ti, hi, hz0, hz1, hz2⟩ := info_parts info_str
  unfold planC at HW0 ⊢
  go_enter Try.func15, Try.ntmps15
  go_upto_region 1 with fail
  rw [← HW0.out]
  have k8 := K.out w0 (Below.refl _ _)
  go_wp2_with (at_make; refine wpList_make_full _ rfl _ _ 53 rfl w0.heap.size 9 ti (.string ⟨#[]⟩) 1 Try.underlying53 hi hz0 hz1 _ _ _ _ n rfl rfl rfl rfl ?b2 ?b3 ?b4 ?_)
  case b2 => rw [hz2]; omega
  case b3 => unfold maxLen; omega
  case b4 => exact Nat.le_refl _
  intro w1 hown hgrow
  have hb1 : Below w0.heap.size w0 w1 := (Below.refl _ w0).grown hgrow (Nat.le_refl _) (by intro k hk; cases hk)
  obtain ⟨g, hg⟩ : ∃ g, g = w0.heap.size := ⟨_, rfl⟩
  have HO : Hid (∃ Z, w1.ownsRow g 9 1 (.slice (some ⟨g, 0, none⟩) n n) n (((xs.take 0).map fun m => m.name).flatMap strC ++ Z)) := hid ⟨_, by rw [hg]; simpa using hown⟩
  rw [← hg]
  have HG := hid hg
  have HB1 := hid hb1
  have k8' := K.out w1 hb1
  have l1 : w.heap.size < w1.heap.size := Nat.lt_of_lt_of_le s0 hb1.size
  clear hown hgrow hg hb1 hi hz0 hz1 hz2 k8
  go_wp2
  clear k8' l1
  go_loopw [13] (fun i wr => ∃ i' : Int, i = .int .i64 i' ∧ 0 ≤ i' ∧ i' ≤ n ∧ Hid (∃ Z, wr.ownsRow g 9 1 (.slice (some ⟨g, 0, none⟩) n n) n (((xs.take i'.toNat).map fun m => m.name).flatMap strC ++ Z)) ∧ Hid (Below w0.heap.size w0 wr)) (fun i _ => ((n : Int) - intOf i).toNat)
  case atStart => exact ⟨0, rfl, by omega, by omega, HO, HB1⟩
  case round =>
    obtain ⟨i', rfl, i0, i1, ho, hb⟩ := hrel
    clear HO HB1
    by_cases hlt : i' < n
    · obtain ⟨x, tx⟩ : ∃ x, xs[i'.toNat]? = some x := ⟨_, List.getElem?_eq_getElem (by have := HN.out; omega)⟩
      obtain ⟨bx, ox, e, lbx, x0, x1, x2, x3, x4, _⟩ := meter_at (HX.out.on hb.out) tx
      subst e
      have TX := hid tx
      have LN : Hid (((xs.take i'.toNat).map fun m => m.name).length = i'.toNat) := hid (by have := HN.out; simp; omega)
      obtain ⟨Z, ho⟩ := ho.out
      have th := there_push (C := strC) (size := 1) ho (by rw [LN.out]; omega)
      rw [LN.out, Nat.mul_one] at th
      obtain ⟨hc, hf⟩ := th 0 (by omega)
      obtain ⟨u, hu⟩ := Option.isSome_iff_exists.1 hc
      rw [Nat.add_zero] at hu hf
      have lg : g < wr.heap.size := (ho.lt g rfl).2
      have HOO := hid ho
      clear tx ho th hc
      go_wp2
      have key : ∃ Z, ((wr.setCell ⟨g, i'.toNat, none⟩ (.string x.name)).alloc (.cells #[.string x.name, .string x.unit, .int .i64 x.max, .int .i64 x.line, .int .i64 x.col] 38)).ownsRow g 9 1 (.slice (some ⟨g, 0, none⟩) n n) n (((xs.take (i' + 1).toNat).map fun m => m.name).flatMap strC ++ Z) := by
        obtain ⟨Z', k1, _⟩ := own_push (C := strC) (size := 1) (fun _ => rfl) HOO.out (by rw [LN.out]; omega) x.name
        rw [LN.out, Nat.mul_one] at k1
        refine ⟨Z', World.ownsRow.alloc ?_ _⟩
        rw [show (i' + 1).toNat = i'.toNat + 1 by omega, List.take_add_one, TX.out, List.map_append]
        exact k1
      have KEY := hid key
      have HB2 : Hid (Below w0.heap.size w0 ((wr.setCell ⟨g, i'.toNat, none⟩ (.string x.name)).alloc (.cells #[.string x.name, .string x.unit, .int .i64 x.max, .int .i64 x.line, .int .i64 x.col] 38))) := hid ((hb.out.setCell (p := ⟨g, i'.toNat, none⟩) (by rw [HG.out]; exact Nat.le_refl _) _).alloc (by rw [World.size_setCell]; exact hb.out.size) _)
      clear key
      go_roundw
      case rel => exact ⟨i' + 1, rfl, by omega, by omega, KEY, HB2⟩
      case measure => simp [intOf]; omega
    · obtain rfl : i' = n := by omega
      obtain ⟨Z, ho⟩ := ho.out
      have hn := HN.out
      have hf := own_full (C := strC) (size := 1) (fun _ => rfl) ho (by rw [List.length_map, List.length_take]; omega)
      rw [List.take_of_length_le (by omega)] at hf
      have hll : (xs.map fun m => m.name).length = n := by rw [List.length_map]; omega
      have cS := sort_any g n (xs.map fun m => m.name) g wr (by rw [hll]; exact hf) (by omega)
      rw [hll] at cS
      clear ho hf hn hll
      go_wp2_with fail
      refine cS.mono ?_
      rintro e w3 ⟨l', rfl, hl', hpm, hri, how, hgr⟩
      have R3 := hid (row_of_own (cells := strC) (ok := fun _ => True) (hn := fun _ => rfl) (by rw [hl']; exact how) (fun _ _ => trivial))
      have B3 := hid (hb.out.grown hgr hb.out.size (by intro k hk; rw [HG.out] at hk; cases hk; exact Nat.le_refl _))
      have HP := hid hpm
      have HR := hid hri
      have HL := hid hl'
      clear cS how hgr hpm hri hl'
      go_wp2
      go_ret
      refine ⟨_, _, l', by rw [HL.out]; rfl, R3.out, HP.out, HR.out, bel_on HB0.out B3.out⟩
/-- All that package tree answers, in all worlds. -/
theorem tro : TrO fun _ => True where
  tr := {
    keep := fun _ _ => trivial
    same := fun p q ma mc fa fc ca cc ma' mc' fa' fc' ca' cc' w _ hp hq => (sameP_any p q ma mc fa fc ca cc ma' mc' fa' fc' ca' cc' w hp hq).mono fun _ _ ⟨h1, h2⟩ => ⟨sameP p q, sameP_iff p q, h1, h2⟩
    plain := fun p ma mc fa fc ca cc w _ hm hp => (plain_any p ma mc fa fc ca cc w hm hp).mono fun _ _ ⟨ma', mc', fa', fc', ca', cc', _, h1, h2, h3, h4⟩ => ⟨ma', mc', fa', fc', ca', cc', h1, lies_of h2 (fits_no (fits_of hp)) h3.own, h4⟩
    meter := fun p name ma mc fa fc ca cc w _ hp => meter_any p name ma mc fa fc ca cc w hp
    names := fun p ma mc fa fc ca cc w _ hl hp => names_any p ma mc fa fc ca cc w hl hp }
  plain := fun p ma mc fa fc ca cc w _ hm hp => plain_any p ma mc fa fc ca cc w hm hp
end Go.Proofs.Ytfeccjcdpiopaaa.Te
