/- What the document's answers for layer 3 (poundageref03) come to: Leap, Days, Good, Number. -/
import Derived.Test.YtjgogpaedaffkaaGreatRows
import Derived.Test.YtjgogpaedaffkaaGreatJParP
import Derived.Test.YtjgogpaedaffkaaGreatJDatB
import Derived.Test.YtjgogpaedaffkaaGreatJMem
import Derived.Test.YtjgogpaedaffkaaGreatJAdjP
import Derived.Lib.QuietBelow
import Derived.BigQuiet
import Derived.Deep.DeepCutAuto
import Derived.Test.YtjgogpaedaffkaaGreatJL06d
import Derived.Test.YtjgogpaedaffkaaGreatJLexJ
import Derived.Test.YtjgogpaedaffkaaGreatJDate
import Derived.Test.YtjgogpaedaffkaaGreatJShR
import Derived.Deep.MidRow
import Derived.Deep.WholeRow
namespace Go.Proofs.YtjgogpaedaffkaaGreat.P
end Go.Proofs.YtjgogpaedaffkaaGreat.P
namespace Go.Proofs.YtjgogpaedaffkaaGreat.Mm
end Go.Proofs.YtjgogpaedaffkaaGreat.Mm
namespace Go.Proofs.YtjgogpaedaffkaaGreat.Md
end Go.Proofs.YtjgogpaedaffkaaGreat.Md
namespace Go.Proofs.YtjgogpaedaffkaaGreat.R6
end Go.Proofs.YtjgogpaedaffkaaGreat.R6
namespace Go.Proofs.YtjgogpaedaffkaaGreat.L06
end Go.Proofs.YtjgogpaedaffkaaGreat.L06
namespace Go.Proofs.YtjgogpaedaffkaaGreat.R3
open Go.RowKit Go.Sort P
theorem leap_any (y : Int) (w : World) :
    Calls Tryz.prog 77 #[.int .i64 y] w fun e w' => e = .returned (.bool (leap y)) ∧ w' = w := by
  go_enter Tryz.func77, Tryz.ntmps77
  go_wp2
  all_goals
    go_ret
    refine ⟨ret_b ?_, rfl⟩
    unfold leap
    simp_all [tmb]
    try omega
set_option maxHeartbeats 1000000 in
theorem days_any (y m : Int) (w : World) :
    Calls Tryz.prog 76 #[.int .i64 y, .int .i64 m] w fun e w' => e = .returned (.int .i64 (days y m)) ∧ Below w.heap.size w w' := by
  by_cases h : m < 1 ∨ 12 < m
  · have e := hid (days_out (y := y) h)
    have hm : m < 1 ∨ (¬ m < 1 ∧ 12 < m) := by omega
    clear h
    go_enter Tryz.func76, Tryz.ntmps76
    rcases hm with h | ⟨h1, h2⟩
    · go_wp2
      go_ret
      exact ⟨ret_i e.out.symm, Below.refl _ _⟩
    · go_wp2
      go_ret
      exact ⟨ret_i e.out.symm, Below.refl _ _⟩
  · have hm : m = 1 ∨ m = 2 ∨ m = 3 ∨ m = 4 ∨ m = 5 ∨ m = 6 ∨ m = 7 ∨ m = 8 ∨ m = 9 ∨ m = 10 ∨ m = 11 ∨ m = 12 := by omega
    clear h
    by_cases h2 : m = 2
    · subst h2
      clear hm
      cases hl : leap y
      · have e : days y 2 = 28 := by unfold days; rw [lp_no hl]; rfl
        have E := hid e
        clear e
        go_enter Tryz.func76, Tryz.ntmps76
        go_wp2_with (go_at_call 77; refine (leap_any _ _).mono ?_; rintro e w' ⟨rfl, h'⟩; rw [h'])
        go_ret
        exact ⟨ret_i E.out.symm, (Below.refl _ _).alloc (Nat.le_refl _) _⟩
      · have e : days y 2 = 29 := by unfold days; rw [lp_yes hl]; rfl
        have E := hid e
        clear e
        go_enter Tryz.func76, Tryz.ntmps76
        go_wp2_with (go_at_call 77; refine (leap_any _ _).mono ?_; rintro e w' ⟨rfl, h'⟩; rw [h'])
        go_ret
        exact ⟨ret_i E.out.symm, Below.refl _ _⟩
    · rcases hm with rfl | rfl | rfl | rfl | rfl | rfl | rfl | rfl | rfl | rfl | rfl | rfl
      all_goals first | omega | skip
      all_goals
        go_enter Tryz.func76, Tryz.ntmps76
        go_wp2
        go_ret
        exact ⟨ret_i (by unfold days; rfl), (Below.refl _ _).alloc (Nat.le_refl _) _⟩
end Go.Proofs.YtjgogpaedaffkaaGreat.R3
/- What the document's answers for layer 3 (poundageref03) come to: Good, Number. -/
namespace Go.Proofs.YtjgogpaedaffkaaGreat.R3
open Go.RowKit Go.Sort P
/-- A box of one's own, then what leaves the box alone. -/
theorem on2 {w w' : World} {o : Obj} (h : Below (w.alloc o).heap.size (w.alloc o) w') : Below w.heap.size w w' :=
  ((Below.refl _ _).alloc (Nat.le_refl _) _).trans (h.mono (by simp))
set_option maxHeartbeats 1000000 in
theorem good_any (y m d : Int) (w : World) :
    Calls Tryz.prog 82 #[dv y m d] w fun e w' => e = .returned (.bool (good y m d)) ∧ Below w.heap.size w w' := by
  unfold dv
  have cD : ∀ W, Calls Tryz.prog 76 #[.int .i64 y, .int .i64 m] W fun e w' => e = .returned (.int .i64 (days y m)) ∧ Below W.heap.size W w' := fun W => days_any y m W
  have L : Lies3 (w.alloc (.cells #[.int .i64 y, .int .i64 m, .int .i64 d] 41)) w.heap.size (.int .i64 y) (.int .i64 m) (.int .i64 d) := Lies3.new rfl
  have k0 := cell_regrown L.c0
  have k1 := cell_regrown L.c1
  have k2 := cell_regrown L.c2
  clear L
  by_cases h : 1 ≤ y ∧ y ≤ 9999 ∧ 1 ≤ m ∧ m ≤ 12 ∧ 1 ≤ d
  · obtain ⟨h1, h2, h3, h4, h5⟩ := h
    have g : good y m d = decide (d ≤ days y m) := by unfold good; rw [decide_eq_decide]; omega
    have G := hid g
    have b1 : decide (1 ≤ y) = true := decide_eq_true h1
    have b2 : decide (y ≤ 9999) = true := decide_eq_true h2
    have b3 : decide (1 ≤ m) = true := decide_eq_true h3
    have b4 : decide (m ≤ 12) = true := decide_eq_true h4
    have b5 : decide (1 ≤ d) = true := decide_eq_true h5
    have qD := fun a b c => Calls.regrown_of (cD (grow (redrawn (w.alloc a) b) c))
    clear g h1 h2 h3 h4 h5 cD
    go_enter Tryz.func82, Tryz.ntmps82
    go_wp2
    refine wp_region_quiet_below (by kernel_rfl) (by kernel_rfl) ?_
    repeat (go_big_quiet_step ((go_at_call 76; exact qD _ _ _)))
    refine wpQuiet_nil ?_
    intro _ hw'
    obtain ⟨⟨dq, osq⟩, hw''⟩ := hw'
    subst hw''
    go_wp2
    go_ret
    exact ⟨ret_b G.out.symm, on2 (below_regrown _ dq osq)⟩
  · have g : good y m d = false := by
      rw [Bool.eq_false_iff]
      intro k
      obtain ⟨a1, a2, a3, a4, a5, _⟩ := good_iff.1 k
      exact h ⟨a1, a2, a3, a4, a5⟩
    have G := hid g
    clear g cD
    rcases Decidable.em (1 ≤ y) with h1 | h1
    · have b1 : decide (1 ≤ y) = true := decide_eq_true h1
      rcases Decidable.em (y ≤ 9999) with h2 | h2
      · have b2 : decide (y ≤ 9999) = true := decide_eq_true h2
        rcases Decidable.em (1 ≤ m) with h3 | h3
        · have b3 : decide (1 ≤ m) = true := decide_eq_true h3
          rcases Decidable.em (m ≤ 12) with h4 | h4
          · have b4 : decide (m ≤ 12) = true := decide_eq_true h4
            rcases Decidable.em (1 ≤ d) with h5 | h5
            · exact absurd ⟨h1, h2, h3, h4, h5⟩ h
            · have b5 : decide (1 ≤ d) = false := decide_eq_false h5
              clear h
              go_enter Tryz.func82, Tryz.ntmps82
              go_wp2
              refine wp_region_quiet_below (by kernel_rfl) (by kernel_rfl) ?_
              repeat (go_big_quiet_step (fail))
              refine wpQuiet_nil ?_
              intro _ hw'
              obtain ⟨⟨dq, osq⟩, hw''⟩ := hw'
              subst hw''
              go_wp2
              go_ret
              exact ⟨ret_b G.out.symm, on2 (below_regrown _ dq osq)⟩
          · have b4 : decide (m ≤ 12) = false := decide_eq_false h4
            clear h
            go_enter Tryz.func82, Tryz.ntmps82
            go_wp2
            refine wp_region_quiet_below (by kernel_rfl) (by kernel_rfl) ?_
            repeat (go_big_quiet_step (fail))
            refine wpQuiet_nil ?_
            intro _ hw'
            obtain ⟨⟨dq, osq⟩, hw''⟩ := hw'
            subst hw''
            go_wp2
            go_ret
            exact ⟨ret_b G.out.symm, on2 (below_regrown _ dq osq)⟩
        · have b3 : decide (1 ≤ m) = false := decide_eq_false h3
          clear h
          go_enter Tryz.func82, Tryz.ntmps82
          go_wp2
          refine wp_region_quiet_below (by kernel_rfl) (by kernel_rfl) ?_
          repeat (go_big_quiet_step (fail))
          refine wpQuiet_nil ?_
          intro _ hw'
          obtain ⟨⟨dq, osq⟩, hw''⟩ := hw'
          subst hw''
          go_wp2
          go_ret
          exact ⟨ret_b G.out.symm, on2 (below_regrown _ dq osq)⟩
      · have b2 : decide (y ≤ 9999) = false := decide_eq_false h2
        clear h
        go_enter Tryz.func82, Tryz.ntmps82
        go_wp2
        refine wp_region_quiet_below (by kernel_rfl) (by kernel_rfl) ?_
        repeat (go_big_quiet_step (fail))
        refine wpQuiet_nil ?_
        intro _ hw'
        obtain ⟨⟨dq, osq⟩, hw''⟩ := hw'
        subst hw''
        go_wp2
        go_ret
        exact ⟨ret_b G.out.symm, on2 (below_regrown _ dq osq)⟩
    · have b1 : decide (1 ≤ y) = false := decide_eq_false h1
      clear h
      go_enter Tryz.func82, Tryz.ntmps82
      go_wp2
      refine wp_region_quiet_below (by kernel_rfl) (by kernel_rfl) ?_
      repeat (go_big_quiet_step (fail))
      refine wpQuiet_nil ?_
      intro _ hw'
      obtain ⟨⟨dq, osq⟩, hw''⟩ := hw'
      subst hw''
      go_wp2
      go_ret
      exact ⟨ret_b G.out.symm, on2 (below_regrown _ dq osq)⟩
end Go.Proofs.YtjgogpaedaffkaaGreat.R3
/- What the document's answers for layer 3 (poundageref03) come to: Number, Of. -/
namespace Go.Proofs.YtjgogpaedaffkaaGreat.R3
open Go.RowKit Go.Sort P
theorem below_on {w W w' : World} (h : Below w.heap.size w W) (hb : Below W.heap.size W w') : Below w.heap.size w w' := h.trans (hb.mono h.size)
set_option maxHeartbeats 1000000 in
theorem number_any (y m d : Int) (w : World) (g : good y m d = true) :
    Calls Tryz.prog 47 #[dv y m d] w fun e w' => e = .returned (.int .i64 (num y m d)) ∧ Below w.heap.size w w' := by
  unfold dv
  obtain ⟨h0, h1, h2, h3, h4, h5⟩ := good_iff.1 g
  have hd := days_bound y m
  have L : Lies3 (w.alloc (.cells #[.int .i64 y, .int .i64 m, .int .i64 d] 41)) w.heap.size (.int .i64 y) (.int .i64 m) (.int .i64 d) := Lies3.new rfl
  go_enter Tryz.func47, Tryz.ntmps47
  go_wp2
  go_loopw [3, 4] (fun n k wr => ∃ k' : Int, k = .int .i64 k' ∧ n = .int .i64 (d - 1 + mon y k') ∧ 1 ≤ k' ∧ k' ≤ m ∧ Lies3 wr w.heap.size (.int .i64 y) (.int .i64 m) (.int .i64 d) ∧ Below w.heap.size w wr) (fun _ k _ => (m - intOf k).toNat)
  case atStart => exact ⟨1, rfl, by rw [mon_1]; simp, by omega, h2, L, (Below.refl _ _).alloc (Nat.le_refl _) _⟩
  case round =>
    obtain ⟨k', rfl, rfl, k0, k1, L', hb⟩ := hrel
    have L2 := L'
    obtain ⟨l, c0, c1, c2, f0, f1, f2⟩ := L2
    have hm := mon_bound (y := y) k0 (by omega)
    have hk := days_bound y k'
    by_cases hlt : k' < m
    · have hs := mon_step (y := y) k0 (by omega)
      go_wp2_with (go_at_call 76; refine (days_any _ _ _).mono ?_; rintro e w2 ⟨rfl, b2⟩; have L3 := L'.on b2; have hb2 := below_on hb b2)
      go_roundw
      case rel => exact ⟨k' + 1, rfl, by rw [hs, Int.add_assoc], by omega, by omega, L3, hb2⟩
      case measure => simp [intOf]; omega
    · obtain rfl : k' = m := by omega
      go_wp2
      go_loop [3, 5] (fun n z => ∃ z' : Int, z = .int .i64 z' ∧ n = .int .i64 (d - 1 + mon y k' + yrs z') ∧ 1 ≤ z' ∧ z' ≤ y) (fun _ z => (y - intOf z).toNat)
      case atStart => exact ⟨1, rfl, by rw [yrs_1]; simp, by omega, h0⟩
      case round =>
        obtain ⟨z', rfl, rfl, z0, z1⟩ := hrel
        have hy := yrs_bound (y := z') z0 (by omega)
        by_cases hlt2 : z' < y
        · have hst := yrs_step z'
          cases hl : leap z'
          · rw [lp_no hl] at hst
            go_wp2_with (go_at_call 77; refine (leap_any _ _).mono ?_; rintro e w' ⟨rfl, h'⟩; rw [h'])
            go_round
            case rel => exact ⟨z' + 1, rfl, by rw [hst]; congr 1; omega, by omega, by omega⟩
            case measure => simp [intOf]; omega
          · rw [lp_yes hl] at hst
            go_wp2_with (go_at_call 77; refine (leap_any _ _).mono ?_; rintro e w' ⟨rfl, h'⟩; rw [h'])
            go_round
            case rel => exact ⟨z' + 1, rfl, by rw [hst]; congr 1; omega, by omega, by omega⟩
            case measure => simp [intOf]; omega
        · obtain rfl : z' = y := by omega
          go_wp2
          go_ret
          exact ⟨ret_i (by unfold num; omega), hb⟩
end Go.Proofs.YtjgogpaedaffkaaGreat.R3
/- The document's answers for layer 9 (poundageref09): Meter, window, Rises. -/
namespace Go.Proofs.YtjgogpaedaffkaaGreat.P
open Go.RowKit Mm
/-- Where a meter of that name stands; -1: nowhere. -/
def mix (ms : List Meter) (name : ByteArray) : Int := match meterIx ms name with
  | some i => i
  | none => -1
theorem mix_scan (ms : List Meter) (name : ByteArray) : mix ms name = L06.scan name ms 0 := by
  have e : (fun m : Meter => decide (m.name = name)) = fun m => m.name.data.toList == name.data.toList := by
    funext m
    rw [Bool.eq_iff_iff]
    simp only [decide_eq_true_eq, beq_iff_eq]
    constructor
    · intro h; rw [h]
    · intro h
      exact ByteArray.ext (Array.toList_inj.1 h)
  rw [L06.scan_find, e]
  unfold mix meterIx
  cases List.findIdx? (fun m : Meter => m.name.data.toList == name.data.toList) ms <;> simp
theorem strB {a b : ByteArray} : a.toList = b.toList ↔ a = b := by
  constructor
  · intro h; rw [ByteArray.toList_eq, ByteArray.toList_eq] at h; exact ByteArray.ext (Array.toList_inj.1 h)
  · intro h; rw [h]
theorem mix_none {ms : List Meter} {name : ByteArray} : mix ms name < 0 ↔ meterIx ms name = none := by
  unfold mix
  cases h : meterIx ms name with
  | none => simp
  | some k => simp
end Go.Proofs.YtjgogpaedaffkaaGreat.P
namespace Go.Proofs.YtjgogpaedaffkaaGreat.R9
open Go.RowKit Go.Sort P Mm Md R6 L06
set_option maxHeartbeats 4000000 in
set_option maxRecDepth 100000 in
theorem meter_any (p : Plan) (name : ByteArray) (ma : Option Addr) (mc : Nat) (fa : Option Addr) (fc : Nat) (ca : Option Addr) (cc : Nat) (w : World) (hp : PlanLies w (planC p ma mc fa fc ca cc) p ma mc fa fc ca cc) :
    Calls Tryz.prog 30 #[.agg (planC p ma mc fa fc ca cc).toArray, .string name] w fun e w' => e = .returned (.int .i64 (mix p.meters name)) ∧ Below w.heap.size w w' := by
  obtain ⟨w1, hw1⟩ : ∃ w1, w1 = w.alloc (.cells (planC p ma mc fa fc ca cc).toArray 45) := ⟨_, rfl⟩
  have b1 : Below w.heap.size w w1 := by rw [hw1]; exact bel_alloc _ _
  obtain ⟨n, hn⟩ : ∃ n, n = p.meters.length := ⟨_, rfl⟩
  have u1 := hp.meters.hcap
  have u2 := hp.meters.hmax
  obtain ⟨R, hR⟩ : ∃ R, R = mix p.meters name := ⟨_, rfl⟩
  rw [← hR]
  have HR : Hid (R = L06.scan name p.meters 0) := hid (by rw [hR, mix_scan])
  have HX := hid (hp.meters.on b1)
  rw [← hn] at HX u1
  have HN := hid hn
  have HB := hid b1
  have HW := hid hw1
  clear hR hp b1 hw1
  unfold planC at HW ⊢
  rw [← hn] at HW ⊢
  clear hn
  go_enter Tryz.func30, Tryz.ntmps30
  go_wp2
  rw [← HW.out]
  clear HW
  go_loopw [10] (fun i wr => ∃ i' : Int, i = .int .i64 i' ∧ 0 ≤ i' ∧ i' ≤ n ∧ Hid (R = L06.scan name (p.meters.drop i'.toNat) i') ∧ Hid (Below w1.heap.size w1 wr)) (fun i _ => ((n : Int) - intOf i).toNat)
  case atStart => exact ⟨0, rfl, by omega, by omega, hid HR.out, hid (Below.refl _ _)⟩
  case round =>
    obtain ⟨i', rfl, i0, i1, hh, hb⟩ := hrel
    by_cases hlt : i' < n
    · obtain ⟨x, tx⟩ : ∃ x, p.meters[i'.toNat]? = some x := ⟨_, List.getElem?_eq_getElem (by have := HN.out; omega)⟩
      have K : Hid (R = if x.name = name then i' else L06.scan name (p.meters.drop (i' + 1).toNat) (i' + 1)) := hid (by
        have := L06.scan_drop (name := name) tx
        rw [show ((i'.toNat : Nat) : Int) = i' by omega] at this
        rw [hh.out, this, show (i' + 1).toNat = i'.toNat + 1 by omega])
      obtain ⟨bx, ox, e, lbx, x0, x1, x2, x3, x4, _⟩ := meter_at (HX.out.on hb.out) tx
      subst e
      have hb2 := hid (hb.out.alloc hb.out.size (.cells #[.string x.name, .string x.unit, .int .i64 x.max, .int .i64 x.line, .int .i64 x.col] 39))
      have HF := hid (bel_on HB.out hb2.out)
      clear tx hh hb
      rcases Bool.eq_false_or_eq_true (x.name.toList == name.toList) with g | g
      · have K2 : Hid (R = i') := hid (by rw [K.out, if_pos (strB.1 (eq_of_beq g))])
        clear K
        go_wp2
        go_ret
        exact ⟨ret_i K2.out.symm, HF.out⟩
      · have K2 : Hid (R = L06.scan name (p.meters.drop (i' + 1).toNat) (i' + 1)) := hid (by rw [K.out, if_neg (fun e => by rw [e] at g; simp at g)])
        clear K
        go_wp2
        go_roundw
        case rel => exact ⟨i' + 1, rfl, by omega, by omega, K2, hb2⟩
        case measure => simp [intOf]; omega
    · obtain rfl : i' = n := by omega
      have K2 : Hid (R = -1) := hid (by rw [hh.out, List.drop_eq_nil_of_le (by have := HN.out; omega)]; rfl)
      have HF := hid (bel_on HB.out hb.out)
      go_wp2
      go_ret
      exact ⟨ret_i K2.out.symm, HF.out⟩
set_option maxHeartbeats 4000000 in
set_option maxRecDepth 100000 in
theorem rises_any (l : List Tier) (ta : Option Addr) (tc : Nat) (w : World) (hx : Row tTier w ta l.length tc l) (hl : l.length ≤ 100000) :
    Calls Tryz.prog 78 #[.slice ta l.length tc] w fun e w' => e = .returned (.bool (risesB 0 l)) ∧ Below w.heap.size w w' := by
  obtain ⟨n, hn⟩ : ∃ n, n = l.length := ⟨_, rfl⟩
  have u1 := hx.hcap
  have u2 := hx.hmax
  obtain ⟨R, hR⟩ : ∃ R, R = risesB 0 l := ⟨_, rfl⟩
  rw [← hR]
  have HR := hid hR
  rw [← hn] at hx u1 hl ⊢
  have HX := hid hx
  have HN := hid hn
  have hl1 : (n : Int) ≤ 100000 := by omega
  clear hR hx hn hl
  go_enter Tryz.func78, Tryz.ntmps78
  go_wp2
  go_loopw [3] (fun i wr => ∃ i' : Int, i = .int .i64 i' ∧ 0 ≤ i' ∧ i' ≤ n ∧ Hid (∃ u, R = risesB u (l.drop i'.toNat) ∧ ((i' = 0 ∧ u = 0) ∨ (0 < i' ∧ ∃ t, l[i'.toNat - 1]? = some t ∧ t.upto = u ∧ 1 ≤ u))) ∧ Hid (Below w.heap.size w wr)) (fun i _ => ((n : Int) - intOf i).toNat)
  case atStart => exact ⟨0, rfl, by omega, by omega, hid ⟨0, HR.out, .inl ⟨rfl, rfl⟩⟩, hid (Below.refl _ _)⟩
  case round =>
    obtain ⟨i', rfl, i0, i1, hh, hb⟩ := hrel
    by_cases hlt : i' + 1 < n
    · obtain ⟨u, hu, hk⟩ := hh.out
      obtain ⟨x, tx⟩ : ∃ x, l[i'.toNat]? = some x := ⟨_, List.getElem?_eq_getElem (by have := HN.out; omega)⟩
      have st := rises_step (u := u) tx (by have := HN.out; omega)
      obtain ⟨bx, ox, e, lbx, x0, x1, _⟩ := tier_at (HX.out.on hb.out) tx
      have lt1 : i' < n := by omega
      have r0 := cell_regrown x0
      by_cases h1 : x.upto < 1
      · have K : Hid (R = false) := hid (by rw [hu, st, show decide (1 ≤ x.upto) = false from decide_eq_false (by omega)]; rfl)
        have g1 : decide (x.upto < 1) = true := decide_eq_true h1
        subst e
        clear hu hk st tx hh h1 x1
        go_upto_region 4 with fail
        refine wp_region_quiet_below (by kernel_rfl) (by kernel_rfl) ?_
        repeat (go_big_quiet_step (fail))
        refine wpQuiet_nil ?_
        intro _ hw'
        obtain ⟨⟨dq, osq⟩, hw''⟩ := hw'
        subst hw''
        have HF := hid (bel_on hb.out (below_regrown wr dq osq))
        go_wp2
        go_ret
        exact ⟨ret_b K.out.symm, HF.out⟩
      · have g1 : decide (x.upto < 1) = false := decide_eq_false h1
        have N1 : (i' + 1).toNat = i'.toNat + 1 := by omega
        rcases hk with ⟨rfl, rfl⟩ | ⟨hp, t, ht, ut, ul⟩
        · have K : Hid (∃ u, R = risesB u (l.drop (0 + 1 : Int).toNat) ∧ (((0 + 1 : Int) = 0 ∧ u = 0) ∨ (0 < (0 + 1 : Int) ∧ ∃ t, l[(0 + 1 : Int).toNat - 1]? = some t ∧ t.upto = u ∧ 1 ≤ u))) := hid ⟨x.upto, by rw [hu, st, show decide (1 ≤ x.upto) = true from decide_eq_true (by omega), show decide (0 < x.upto) = true from decide_eq_true (by omega)]; rfl, .inr ⟨by omega, x, tx, rfl, by omega⟩⟩
          subst e
          clear hu st tx hh h1 x1
          have r1 : ∀ (d : Nat) (os : Array Obj), (grow (redrawn wr d) os).cell? ⟨bx, ox, none⟩ = some (Value.int IntKind.i64 x.upto) := by simpa using r0
          clear r0
          go_upto_region 4 with fail
          refine wp_region_quiet_below (by kernel_rfl) (by kernel_rfl) ?_
          repeat (go_big_quiet_step (fail))
          refine wpQuiet_nil ?_
          intro _ hw'
          obtain ⟨⟨dq, osq⟩, hw''⟩ := hw'
          subst hw''
          have HF := hid (bel_on hb.out (below_regrown wr dq osq))
          go_wp2
          go_roundw
          case rel => exact ⟨0 + 1, rfl, by omega, by omega, K, HF⟩
          case measure => simp [intOf]; omega
        · obtain ⟨by', oy, e2, lby, y0, y1, _⟩ := tier_at (HX.out.on hb.out) ht
          rw [ut] at y0
          obtain ⟨rfl, rfl⟩ : by' = bx ∧ oy = ox := by rw [e] at e2; cases e2; exact ⟨rfl, rfl⟩
          have e3 : (i' - 1).toNat = i'.toNat - 1 := by omega
          have s0 := cell_regrown y0
          have gi : decide (0 < i') = true := decide_eq_true hp
          have j1 : 0 ≤ i' - 1 := by omega
          have j2 : i' - 1 < n := by omega
          by_cases h2 : x.upto ≤ u
          · have K : Hid (R = false) := hid (by rw [hu, st, show decide (u < x.upto) = false from decide_eq_false (by omega), Bool.and_false]; rfl)
            have g2 : decide (x.upto ≤ u) = true := decide_eq_true h2
            subst e
            clear hu st tx hh h1 h2 x1 ht ut e2 y1 e3
            go_upto_region 4 with fail
            refine wp_region_quiet_below (by kernel_rfl) (by kernel_rfl) ?_
            repeat (go_big_quiet_step (fail))
            refine wpQuiet_nil ?_
            intro _ hw'
            obtain ⟨⟨dq, osq⟩, hw''⟩ := hw'
            subst hw''
            have HF := hid (bel_on hb.out (below_regrown wr dq osq))
            go_wp2
            go_ret
            exact ⟨ret_b K.out.symm, HF.out⟩
          · have K : Hid (∃ u, R = risesB u (l.drop (i' + 1).toNat) ∧ ((i' + 1 = 0 ∧ u = 0) ∨ (0 < i' + 1 ∧ ∃ t, l[(i' + 1).toNat - 1]? = some t ∧ t.upto = u ∧ 1 ≤ u))) := hid ⟨x.upto, by rw [hu, st, show decide (1 ≤ x.upto) = true from decide_eq_true (by omega), show decide (u < x.upto) = true from decide_eq_true (by omega), N1]; rfl, .inr ⟨by omega, x, by rw [N1]; exact tx, rfl, by omega⟩⟩
            have g2 : decide (x.upto ≤ u) = false := decide_eq_false h2
            subst e
            clear hu st tx hh h1 h2 x1 ht ut e2 y1 e3
            go_upto_region 4 with fail
            refine wp_region_quiet_below (by kernel_rfl) (by kernel_rfl) ?_
            repeat (go_big_quiet_step (fail))
            refine wpQuiet_nil ?_
            intro _ hw'
            obtain ⟨⟨dq, osq⟩, hw''⟩ := hw'
            subst hw''
            have HF := hid (bel_on hb.out (below_regrown wr dq osq))
            go_wp2
            go_roundw
            case rel => exact ⟨i' + 1, rfl, by omega, by omega, K, HF⟩
            case measure => simp [intOf]; omega
    · have K : Hid (R = true) := hid (by
        obtain ⟨u, hu, _⟩ := hh.out
        rw [hu, rises_stop (by have := HN.out; omega)])
      have HF := hb
      clear hh hb
      go_wp2
      go_ret
      exact ⟨ret_b K.out.symm, HF.out⟩
end Go.Proofs.YtjgogpaedaffkaaGreat.R9
/- The document's answers for layer 9 (poundageref09): window. -/
namespace Go.Proofs.YtjgogpaedaffkaaGreat.R9
open Go.RowKit Go.Sort P Mm Md R6 L06
theorem num3 (d : Day) (h : DayOk d) (w : World) : Calls Tryz.prog 47 #[.agg #[.int .i64 d.y, .int .i64 d.m, .int .i64 d.d]] w fun e w' => e = .returned (.int .i64 (dn d)) ∧ Below w.heap.size w w' := R3.number_any d.y d.m d.d w h
theorem rb_of {a b : Bool} {w w' : World} {B : Nat} (h : a = b) (k : Below B w w') : (Ending.returned (.bool a) : Ending) = .returned (.bool b) ∧ Below B w w' := ⟨by rw [h], k⟩
set_option maxHeartbeats 4000000 in
set_option maxRecDepth 100000 in
theorem window_any (p : Plan) (x : Win) (ma : Option Addr) (mc : Nat) (fa : Option Addr) (fc : Nat) (ca : Option Addr) (cc : Nat) (w : World) (gp : DayOk p.a ∧ DayOk p.b) (gx : WinOk x) :
    Calls Tryz.prog 48 #[.agg #[.string p.name, .string p.cur, .int .i64 p.a.y, .int .i64 p.a.m, .int .i64 p.a.d, .int .i64 p.b.y, .int .i64 p.b.m, .int .i64 p.b.d, .slice ma p.meters.length mc, .slice fa p.fees.length fc, .slice ca p.charges.length cc, .int .i64 p.line, .int .i64 p.col], .agg #[.bool x.has, .int .i64 x.a.y, .int .i64 x.a.m, .int .i64 x.a.d, .int .i64 x.b.y, .int .i64 x.b.m, .int .i64 x.b.d]] w fun e w' => e = .returned (.bool (winIn p x)) ∧ Below w.heap.size w w' := by
  cases hx : x.has with
  | false =>
    have e : winIn p x = true := by unfold winIn; rw [hx]; rfl
    rw [e]
    have BB := hid (bel_on (bel_alloc w (.cells [.string p.name, .string p.cur, .int .i64 p.a.y, .int .i64 p.a.m, .int .i64 p.a.d, .int .i64 p.b.y, .int .i64 p.b.m, .int .i64 p.b.d, .slice ma p.meters.length mc, .slice fa p.fees.length fc, .slice ca p.charges.length cc, .int .i64 p.line, .int .i64 p.col].toArray 45)) (bel_alloc (w.alloc (.cells [.string p.name, .string p.cur, .int .i64 p.a.y, .int .i64 p.a.m, .int .i64 p.a.d, .int .i64 p.b.y, .int .i64 p.b.m, .int .i64 p.b.d, .slice ma p.meters.length mc, .slice fa p.fees.length fc, .slice ca p.charges.length cc, .int .i64 p.line, .int .i64 p.col].toArray 45)) (.cells [.bool false, .int .i64 x.a.y, .int .i64 x.a.m, .int .i64 x.a.d, .int .i64 x.b.y, .int .i64 x.b.m, .int .i64 x.b.d].toArray 82)))
    clear gp gx hx e
    go_enter Tryz.func48, Tryz.ntmps48
    go_wp2
    go_ret
    exact ⟨rfl, BB.out⟩
  | true =>
    obtain ⟨ga, gb⟩ : DayOk x.a ∧ DayOk x.b := by
      rcases gx with ⟨_, h⟩ | h
      · exact h
      · rw [h] at hx; cases hx
    obtain ⟨w1, hw1⟩ : ∃ W, W = w.alloc (.cells [.string p.name, .string p.cur, .int .i64 p.a.y, .int .i64 p.a.m, .int .i64 p.a.d, .int .i64 p.b.y, .int .i64 p.b.m, .int .i64 p.b.d, .slice ma p.meters.length mc, .slice fa p.fees.length fc, .slice ca p.charges.length cc, .int .i64 p.line, .int .i64 p.col].toArray 45) := ⟨_, rfl⟩
    obtain ⟨k1, hk1⟩ : ∃ k, k = w.heap.size := ⟨_, rfl⟩
    have X1 : Box w1 k1 [.string p.name, .string p.cur, .int .i64 p.a.y, .int .i64 p.a.m, .int .i64 p.a.d, .int .i64 p.b.y, .int .i64 p.b.m, .int .i64 p.b.d, .slice ma p.meters.length mc, .slice fa p.fees.length fc, .slice ca p.charges.length cc, .int .i64 p.line, .int .i64 p.col] := by rw [hw1, hk1]; exact Box.new _ _ _
    have b1 : Below w.heap.size w w1 := by rw [hw1]; exact bel_alloc _ _
    obtain ⟨w2, hw2⟩ : ∃ W, W = w1.alloc (.cells [.bool true, .int .i64 x.a.y, .int .i64 x.a.m, .int .i64 x.a.d, .int .i64 x.b.y, .int .i64 x.b.m, .int .i64 x.b.d].toArray 82) := ⟨_, rfl⟩
    obtain ⟨k2, hk2⟩ : ∃ k, k = w1.heap.size := ⟨_, rfl⟩
    have X2 : Box w2 k2 [.bool true, .int .i64 x.a.y, .int .i64 x.a.m, .int .i64 x.a.d, .int .i64 x.b.y, .int .i64 x.b.m, .int .i64 x.b.d] := by rw [hw2, hk2]; exact Box.new _ _ _
    have b2 : Below w1.heap.size w1 w2 := by rw [hw2]; exact bel_alloc _ _
    have hk3 : k2 = w.heap.size + 1 := by rw [hk2, hw1]; simp
    have X := hid (fun (W : World) (b : Below w2.heap.size w2 W) => (⟨(X1.on b2).on b, bel_on (bel_on b1 b2) b⟩ : Box W k1 _ ∧ Below w.heap.size w W))
    obtain ⟨A, hA⟩ : ∃ A, A = dn x.a := ⟨_, rfl⟩
    obtain ⟨B, hB⟩ : ∃ A, A = dn x.b := ⟨_, rfl⟩
    obtain ⟨PA, hPA⟩ : ∃ A, A = dn p.a := ⟨_, rfl⟩
    obtain ⟨PB, hPB⟩ : ∃ A, A = dn p.b := ⟨_, rfl⟩
    have cA := fun W => num3 x.a ga W
    have cB := fun W => num3 x.b gb W
    have cPA := hid (fun W => num3 p.a gp.1 W)
    have cPB := hid (fun W => num3 p.b gp.2 W)
    rw [← hA] at cA
    rw [← hB] at cB
    rw [← hPA] at cPA
    rw [← hPB] at cPB
    obtain ⟨R, hR⟩ : ∃ R : Bool, R = (decide (A ≤ B) && decide (PA ≤ A) && decide (B ≤ PB)) := ⟨_, rfl⟩
    have e : winIn p x = R := by unfold winIn; rw [hx, hR, hA, hB, hPA, hPB]; rfl
    rw [e]
    have HR := hid hR
    have d0 := X2.cell 0 _ rfl; have d1 := X2.cell 1 _ rfl; have d2 := X2.cell 2 _ rfl; have d3 := X2.cell 3 _ rfl; have d4 := X2.cell 4 _ rfl; have d5 := X2.cell 5 _ rfl; have d6 := X2.cell 6 _ rfl
    have HW := hid (show w2 = (w.alloc (.cells [.string p.name, .string p.cur, .int .i64 p.a.y, .int .i64 p.a.m, .int .i64 p.a.d, .int .i64 p.b.y, .int .i64 p.b.m, .int .i64 p.b.d, .slice ma p.meters.length mc, .slice fa p.fees.length fc, .slice ca p.charges.length cc, .int .i64 p.line, .int .i64 p.col].toArray 45)).alloc (.cells [.bool true, .int .i64 x.a.y, .int .i64 x.a.m, .int .i64 x.a.d, .int .i64 x.b.y, .int .i64 x.b.m, .int .i64 x.b.d].toArray 82) by rw [hw2, hw1])
    have HK1 := hid hk1
    have HK3 := hid hk3
    clear hA hB hPA hPB hR e hw1 hw2 b1 b2 X1 X2 hk1 hk2 hk3 ga gb gx gp hx
    go_enter Tryz.func48, Tryz.ntmps48
    go_upto_region 3 with fail
    rw [← HW.out, ← HK3.out, ← HK1.out]
    clear HW HK1 HK3
    have f0 := cell_regrown d0; have f1 := cell_regrown d1; have f2 := cell_regrown d2; have f3 := cell_regrown d3; have f4 := cell_regrown d4; have f5 := cell_regrown d5; have f6 := cell_regrown d6
    have qA := fun d os => Calls.regrown_of (cA (grow (redrawn w2 d) os))
    have qB := fun d os => Calls.regrown_of (cB (grow (redrawn w2 d) os))
    clear cA cB d0 d1 d2 d3 d4 d5 d6
    refine wp_region_quiet_below (by kernel_rfl) (by kernel_rfl) ?_
    repeat (go_big_quiet_step (first | (go_at_call_of 47 (Value.agg #[.int .i64 x.a.y, .int .i64 x.a.m, .int .i64 x.a.d]); exact qA _ _) | (go_at_call 47; exact qB _ _)))
    refine wpQuiet_nil ?_
    intro w3 hw'
    obtain ⟨⟨dq, osq⟩, hw''⟩ := hw'
    have B3 : Hid (Below w2.heap.size w2 w3) := hid (by subst hw''; exact below_regrown w2 dq osq)
    clear hw'' qA qB f0 f1 f2 f3 f4 f5 f6
    obtain ⟨Y1, BW⟩ := X.out _ B3.out
    have a2 := Y1.cell 2 _ rfl; have a3 := Y1.cell 3 _ rfl; have a4 := Y1.cell 4 _ rfl
    have BF := hid BW
    clear Y1 BW
    by_cases h1 : A ≤ B
    · go_wp2_with fail
      refine (cPA.out w3).mono ?_
      rintro e w4 ⟨rfl, b4⟩
      have B4 := hid (bel_on B3.out b4)
      clear b4 BF a2 a3 a4 B3
      obtain ⟨Y1, BW⟩ := X.out _ B4.out
      have a5 := Y1.cell 5 _ rfl; have a6 := Y1.cell 6 _ rfl; have a7 := Y1.cell 7 _ rfl
      have BF := hid BW
      clear Y1 BW
      by_cases h2 : PA ≤ A
      · go_wp2_with fail
        refine (cPB.out w4).mono ?_
        rintro e w5 ⟨rfl, b5⟩
        have B5 := hid (X.out _ (bel_on B4.out b5)).2
        clear b5 BF a5 a6 a7 B4
        by_cases h3 : B ≤ PB
        · have K : Hid (R = true) := hid (by rw [HR.out, decide_eq_true h1, decide_eq_true h2, decide_eq_true h3]; rfl)
          go_wp2
          go_ret
          exact rb_of (by rw [K.out] <;> first | exact decide_eq_false (by omega) | exact decide_eq_true (by omega)) B5.out
        · have K : Hid (R = false) := hid (by rw [HR.out, decide_eq_true h1, decide_eq_true h2, decide_eq_false h3]; rfl)
          go_wp2
          go_ret
          exact rb_of (by rw [K.out] <;> first | exact decide_eq_false (by omega) | exact decide_eq_true (by omega)) B5.out
      · have K : Hid (R = false) := hid (by rw [HR.out, decide_eq_true h1, decide_eq_false h2]; rfl)
        go_wp2
        go_ret
        exact ⟨ret_b K.out.symm, BF.out⟩
    · have K : Hid (R = false) := hid (by rw [HR.out, decide_eq_false h1]; rfl)
      go_wp2
      go_ret
      exact ⟨ret_b K.out.symm, BF.out⟩
end Go.Proofs.YtjgogpaedaffkaaGreat.R9
/- The document's answers for layer 9 (poundageref09): Charge. -/
namespace Go.Proofs.YtjgogpaedaffkaaGreat.R9
open Go.RowKit Go.Sort P Mm Md R6 L06
theorem wpList_load_midg {P : Program} {ops : Array Oper} {rest : List Oper} {op : Oper} {a : Act} {w : World} {Q : Exit → Act → World → Prop} (hw : Region.wanted op (yielded ops a.tmps) = true) (ty : TypeId) (x : Operand) (ho : op.op = .load ty x)
    (b o : Nat) (hx : a.eval x = .pointer (some ⟨b, o, none⟩)) (cs : List Value) (d : TypeDesc) (hc : w.rangeAt b o cs)
    (hu : P.underlying ty = some d) (hd : d.isRow = true) (hi : (P.info? ty).map (·.size) = some cs.length)
    (h : wpList P ops Q rest (a.put op.dst (.agg cs.toArray)) w) : wpList P ops Q (op :: rest) a w :=
  wpList_step fun _ hK => by simp only [hw, if_true]; exact wp_load_mid ty x ho b o hx cs d hc hu hd hi (hK _ _ h)
theorem wantg {op : Oper} {ops : Array Oper} {tm : Array Value} {k : Nat} {b c : Bool} (h : op.guard = some (k, b)) (hy : yielded ops tm k = some c) (e : c = b) : Region.wanted op (yielded ops tm) = true := by
  unfold Region.wanted
  rw [h]
  simp [hy, e]
theorem range_ch {W : World} {b o : Nat} {x : Charge} {ta : Option Addr} {tc : Nat} {aa : Option Addr} {ac : Nat} (h : ChargeAt W b o x ta tc aa ac) : W.rangeAt b o (chargeC x ta tc aa ac) := by
  obtain ⟨_, a0, a1, a2, a3, a4, a5, a6, a7, a8, a9, a10, a11, a12, a13, a14, a15⟩ := h
  intro j v hj
  match j, hj with
  | 0, hj => cases hj; exact a0
  | 1, hj => cases hj; exact a1
  | 2, hj => cases hj; exact a2
  | 3, hj => cases hj; exact a3
  | 4, hj => cases hj; exact a4
  | 5, hj => cases hj; exact a5
  | 6, hj => cases hj; exact a6
  | 7, hj => cases hj; exact a7
  | 8, hj => cases hj; exact a8
  | 9, hj => cases hj; exact a9
  | 10, hj => cases hj; exact a10
  | 11, hj => cases hj; exact a11
  | 12, hj => cases hj; exact a12
  | 13, hj => cases hj; exact a13
  | 14, hj => cases hj; exact a14
  | 15, hj => cases hj; exact a15
  | j + 16, hj => cases hj
theorem ch_on {w w' : World} {c : Charge} {ta : Option Addr} {tc : Nat} {aa : Option Addr} {ac : Nat} (h : ChargeLies w (chargeC c ta tc aa ac) c ta tc aa ac) (b : Below w.heap.size w w') : ChargeLies w' (chargeC c ta tc aa ac) c ta tc aa ac := ⟨h.cells, h.tiers.on b, h.adjusts.on b, h.meter, h.win, h.nums⟩
set_option maxHeartbeats 8000000 in
set_option maxRecDepth 100000 in
theorem charge_any (p : Plan) (ma : Option Addr) (mc : Nat) (fa : Option Addr) (fc : Nat) (ca : Option Addr) (cc : Nat) (i : Nat) (c : Charge) (w : World) (hp : PlanLies w (planC p ma mc fa fc ca cc) p ma mc fa fc ca cc) (hti : p.charges[i]? = some c) (gd : Gd p) (hl : p.charges.length ≤ 100000) (hq : c.tiers.length ≤ 100000) :
    Calls Tryz.prog 49 #[.agg #[.string p.name, .string p.cur, .int .i64 p.a.y, .int .i64 p.a.m, .int .i64 p.a.d, .int .i64 p.b.y, .int .i64 p.b.m, .int .i64 p.b.d, .slice ma p.meters.length mc, .slice fa p.fees.length fc, .slice ca p.charges.length cc, .int .i64 p.line, .int .i64 p.col], .int .i64 (i : Int)] w fun e w' => e = .returned (.int .i64 (chE p i c)) ∧ Below w.heap.size w w' := by
  obtain ⟨w1, hw1⟩ : ∃ W, W = w.alloc (.cells [.string p.name, .string p.cur, .int .i64 p.a.y, .int .i64 p.a.m, .int .i64 p.a.d, .int .i64 p.b.y, .int .i64 p.b.m, .int .i64 p.b.d, .slice ma p.meters.length mc, .slice fa p.fees.length fc, .slice ca p.charges.length cc, .int .i64 p.line, .int .i64 p.col].toArray 45) := ⟨_, rfl⟩
  obtain ⟨k1, hk1⟩ : ∃ k, k = w.heap.size := ⟨_, rfl⟩
  have X1 : Box w1 k1 [.string p.name, .string p.cur, .int .i64 p.a.y, .int .i64 p.a.m, .int .i64 p.a.d, .int .i64 p.b.y, .int .i64 p.b.m, .int .i64 p.b.d, .slice ma p.meters.length mc, .slice fa p.fees.length fc, .slice ca p.charges.length cc, .int .i64 p.line, .int .i64 p.col] := by rw [hw1, hk1]; exact Box.new _ _ _
  have b1 : Below w.heap.size w w1 := by rw [hw1]; exact bel_alloc _ _
  obtain ⟨b, o, ta, tc, aa, ac, e, ax, lx0⟩ := charge_at (hp.on b1).charges hti
  have r1 := hid (range_ch ax)
  unfold chargeC at r1
  obtain ⟨w2, hw2⟩ : ∃ W, W = w1.alloc (.cells [.string c.meter, .bool c.win.has, .int .i64 c.win.a.y, .int .i64 c.win.a.m, .int .i64 c.win.a.d, .int .i64 c.win.b.y, .int .i64 c.win.b.m, .int .i64 c.win.b.d, .int .i64 c.allowance, .int .i64 c.block, .int .i64 c.kind, .slice ta c.tiers.length tc, .int .i64 c.mode, .slice aa c.adjusts.length ac, .int .i64 c.line, .int .i64 c.col].toArray 87) := ⟨_, rfl⟩
  obtain ⟨k2, hk2⟩ : ∃ k, k = w1.heap.size := ⟨_, rfl⟩
  have X2 : Box w2 k2 [.string c.meter, .bool c.win.has, .int .i64 c.win.a.y, .int .i64 c.win.a.m, .int .i64 c.win.a.d, .int .i64 c.win.b.y, .int .i64 c.win.b.m, .int .i64 c.win.b.d, .int .i64 c.allowance, .int .i64 c.block, .int .i64 c.kind, .slice ta c.tiers.length tc, .int .i64 c.mode, .slice aa c.adjusts.length ac, .int .i64 c.line, .int .i64 c.col] := by rw [hw2, hk2]; exact Box.new _ _ _
  have b2 : Below w1.heap.size w1 w2 := by rw [hw2]; exact bel_alloc _ _
  have X := hid (fun (W : World) (bw : Below w2.heap.size w2 W) => (⟨(X1.on b2).on bw, X2.on bw, hp.on (bel_on (bel_on b1 b2) bw), ch_on lx0 (bel_on b2 bw), bel_on (bel_on b1 b2) bw⟩ : Box W k1 _ ∧ Box W k2 _ ∧ PlanLies W _ p ma mc fa fc ca cc ∧ ChargeLies W _ c ta tc aa ac ∧ Below w.heap.size w W))
  obtain ⟨n, hn⟩ : ∃ n, n = p.charges.length := ⟨_, rfl⟩
  have hin : i < n := by rw [hn]; exact (List.getElem?_eq_some_iff.1 hti).1
  have n1 : n ≤ cc := by rw [hn]; exact hp.charges.hcap
  have n2 : n ≤ 100000 := by rw [hn]; exact hl
  obtain ⟨nT, hnT⟩ : ∃ n, n = c.tiers.length := ⟨_, rfl⟩
  obtain ⟨nA, hnA⟩ : ∃ n, n = c.adjusts.length := ⟨_, rfl⟩
  have GC := gd.charges c (List.mem_of_getElem? hti)
  have cM := hid (fun (W : World) (bw : Below w2.heap.size w2 W) => meter_any p c.meter ma mc fa fc ca cc W (hp.on (bel_on (bel_on b1 b2) bw)))
  have cW := hid (fun (W : World) => window_any p c.win ma mc fa fc ca cc W gd.days GC.win)
  have cR := hid (fun (W : World) (bw : Below w2.heap.size w2 W) => rises_any c.tiers ta tc W (ch_on lx0 (bel_on b2 bw)).tiers hq)
  unfold planC at cM
  have d10 := X1.cell 10 _ rfl
  obtain ⟨E, hE⟩ : ∃ E, E = chE p i c := ⟨_, rfl⟩
  rw [← hE]
  have HE : Hid (E = if 8 ≤ i then 6 else if meterIx p.meters c.meter = none ∨ winIn p c.win = false ∨ c.block = 0 then 5 else if 8 < nT then 6 else if risesB 0 c.tiers = false then 5 else if 6 < nA then 6 else 0) := hid (by rw [hE, hnT, hnA]; rfl)
  obtain ⟨IX, hIX⟩ : ∃ z, z = mix p.meters c.meter := ⟨_, rfl⟩
  obtain ⟨WB, hWB⟩ : ∃ z, z = winIn p c.win := ⟨_, rfl⟩
  obtain ⟨RB, hRB⟩ : ∃ z, z = risesB 0 c.tiers := ⟨_, rfl⟩
  rw [← hIX] at cM
  rw [← hWB] at cW HE
  rw [← hRB] at cR HE
  have HI : Hid (meterIx p.meters c.meter = none ↔ IX < 0) := hid (by rw [hIX]; exact mix_none.symm)
  rw [← hn] at d10
  have HW1 := hid hw1
  have HW2 := hid hw2
  have HK1 := hid hk1
  have HK2 := hid hk2
  rw [← hnT] at cR
  have HNT := hid hnT
  have HNA := hid hnA
  have HN := hid hn
  clear hIX hWB hRB hE hnT hnA GC gd hn X1 X2 hw1 hw2 hk1 hk2 b1 b2 hp ax lx0 hti hl hq
  subst e
  go_enter Tryz.func49, Tryz.ntmps49
  go_upto_region 1 with fail
  rw [← HW1.out, ← HK1.out]
  clear HW1
  go_upto_region 2 with (first
    | (with_reducible refine wpList_load_mid (op := Oper.mk (some 10) (Op.load 87 (Operand.tmp 9)) _ _ _ _) ?_ 87 (.tmp 9) ?_ b (o + i * 16) ?_ [.string c.meter, .bool c.win.has, .int .i64 c.win.a.y, .int .i64 c.win.a.m, .int .i64 c.win.a.d, .int .i64 c.win.b.y, .int .i64 c.win.b.m, .int .i64 c.win.b.d, .int .i64 c.allowance, .int .i64 c.block, .int .i64 c.kind, .slice ta c.tiers.length tc, .int .i64 c.mode, .slice aa c.adjusts.length ac, .int .i64 c.line, .int .i64 c.col] _ r1.out Tryz.underlying87 ?_ ?_ ?_; rfl; rfl; go_simp; rfl; kernel_rfl)
    | (with_reducible refine wpList_store_new (op := Oper.mk none (Op.store 87 (Operand.tmp 5) (Operand.tmp 10)) _ _ _ _) ?_ 87 (.tmp 5) (.tmp 10) ?_ w1 _ #[.string c.meter, .bool c.win.has, .int .i64 c.win.a.y, .int .i64 c.win.a.m, .int .i64 c.win.a.d, .int .i64 c.win.b.y, .int .i64 c.win.b.m, .int .i64 c.win.b.d, .int .i64 c.allowance, .int .i64 c.block, .int .i64 c.kind, .slice ta c.tiers.length tc, .int .i64 c.mode, .slice aa c.adjusts.length ac, .int .i64 c.line, .int .i64 c.col] ?_ ?_ ?_ ?_ ?_ ?_; rfl; rfl; go_simp; go_simp; kernel_rfl; rfl; (simp [Value.oneCell']))
    | fail)
  rw [← HW2.out, ← HK2.out]
  clear HW2 r1 d10
  by_cases h8 : 8 ≤ i
  · have K : Hid (E = 6) := hid (by rw [HE.out, if_pos h8])
    have h9 : (8 : Int) ≤ (i : Int) := by omega
    have BF := hid (X.out w2 (Below.refl _ _)).2.2.2.2
    go_wp2
    go_ret
    exact ⟨ret_i K.out.symm, BF.out⟩
  have HE2 : Hid (E = if meterIx p.meters c.meter = none ∨ WB = false ∨ c.block = 0 then 5 else if 8 < nT then 6 else if RB = false then 5 else if 6 < nA then 6 else 0) := hid (by rw [HE.out, if_neg h8])
  have h9 : (i : Int) < 8 := by omega
  obtain ⟨Y1, Y2, _, _, BW⟩ := X.out w2 (Below.refl _ _)
  have RP := hid (range_of Y1.cell)
  have d0 := Y2.cell 0 _ rfl
  have BF := hid BW
  clear Y1 Y2 BW HE h8
  go_upto_region 4 with fail
  by_cases hI : IX < 0
  · have K : Hid (E = 5) := hid (by rw [HE2.out, if_pos (.inl (HI.out.2 hI))])
    have gI : decide (IX < 0) = true := decide_eq_true hI
    clear HE2 HI hI
    go_wp2_with (first | (with_reducible refine wpList_load_mid (op := Oper.mk (some 13) (Op.load 45 (Operand.tmp 2)) _ _ _ _) ?_ 45 (.tmp 2) ?_ k1 0 ?_ [.string p.name, .string p.cur, .int .i64 p.a.y, .int .i64 p.a.m, .int .i64 p.a.d, .int .i64 p.b.y, .int .i64 p.b.m, .int .i64 p.b.d, .slice ma p.meters.length mc, .slice fa p.fees.length fc, .slice (some ⟨b, o, none⟩) p.charges.length cc, .int .i64 p.line, .int .i64 p.col] _ RP.out Tryz.underlying45 ?_ ?_ ?_; rfl; rfl; go_simp; rfl; kernel_rfl) | fail)
    refine (cM.out w2 (Below.refl _ _)).mono ?_
    rintro e w3 ⟨rfl, b3⟩
    have B3 := hid b3
    clear b3 d0 BF RP cM
    obtain ⟨Y1, Y2, _, _, BW⟩ := X.out w3 B3.out
    have RP := hid (range_of Y1.cell)
    have d1 := Y2.cell 1 _ rfl; have d2 := Y2.cell 2 _ rfl; have d3 := Y2.cell 3 _ rfl; have d4 := Y2.cell 4 _ rfl; have d5 := Y2.cell 5 _ rfl; have d6 := Y2.cell 6 _ rfl; have d7 := Y2.cell 7 _ rfl
    have BF := hid BW
    clear Y1 Y2 BW
    clear RP d1 d2 d3 d4 d5 d6 d7
    go_wp2
    go_ret
    exact ⟨ret_i K.out.symm, BF.out⟩
  have gI : decide (IX < 0) = false := decide_eq_false hI
  have NI : Hid (¬ meterIx p.meters c.meter = none) := hid (fun h => hI (HI.out.1 h))
  clear hI HI
  go_wp2_with (first | (with_reducible refine wpList_load_mid (op := Oper.mk (some 13) (Op.load 45 (Operand.tmp 2)) _ _ _ _) ?_ 45 (.tmp 2) ?_ k1 0 ?_ [.string p.name, .string p.cur, .int .i64 p.a.y, .int .i64 p.a.m, .int .i64 p.a.d, .int .i64 p.b.y, .int .i64 p.b.m, .int .i64 p.b.d, .slice ma p.meters.length mc, .slice fa p.fees.length fc, .slice (some ⟨b, o, none⟩) p.charges.length cc, .int .i64 p.line, .int .i64 p.col] _ RP.out Tryz.underlying45 ?_ ?_ ?_; rfl; rfl; go_simp; rfl; kernel_rfl) | fail)
  refine (cM.out w2 (Below.refl _ _)).mono ?_
  rintro e w3 ⟨rfl, b3⟩
  have B3 := hid b3
  clear b3 d0 BF RP cM
  obtain ⟨Y1, Y2, _, _, BW⟩ := X.out w3 B3.out
  have RP := hid (range_of Y1.cell)
  have d1 := Y2.cell 1 _ rfl; have d2 := Y2.cell 2 _ rfl; have d3 := Y2.cell 3 _ rfl; have d4 := Y2.cell 4 _ rfl; have d5 := Y2.cell 5 _ rfl; have d6 := Y2.cell 6 _ rfl; have d7 := Y2.cell 7 _ rfl
  have BF := hid BW
  clear Y1 Y2 BW
  go_wp2_with (first | ((with_reducible refine wpList_load_midg (op := Oper.mk (some 19) (Op.load 45 (Operand.tmp 2)) _ _ _ _) ?_ 45 (.tmp 2) ?_ k1 0 ?_ [.string p.name, .string p.cur, .int .i64 p.a.y, .int .i64 p.a.m, .int .i64 p.a.d, .int .i64 p.b.y, .int .i64 p.b.m, .int .i64 p.b.d, .slice ma p.meters.length mc, .slice fa p.fees.length fc, .slice (some ⟨b, o, none⟩) p.charges.length cc, .int .i64 p.line, .int .i64 p.col] _ RP.out Tryz.underlying45 ?_ ?_ ?_); (first | (exact wantg rfl (by kernel_rfl) rfl)); rfl; go_simp; rfl; kernel_rfl) | fail)
  refine (cW.out w3).mono ?_
  rintro e w4 ⟨rfl, b4⟩
  have B4 := hid (bel_on B3.out b4)
  clear b4 BF RP cW d1 d2 d3 d4 d5 d6 d7 B3
  obtain ⟨Y1, Y2, _, _, BW⟩ := X.out w4 B4.out
  have d9 := Y2.cell 9 _ rfl
  have d11 := Y2.cell 11 _ rfl
  rw [← HNT.out] at d11
  have BF := hid BW
  clear Y1 Y2 BW
  by_cases hW : WB = false
  · have K : Hid (E = 5) := hid (by rw [HE2.out, if_pos (.inr (.inl hW))])
    clear d11 HE2
    subst hW
    go_wp2
    go_ret
    exact ⟨ret_i K.out.symm, BF.out⟩
  obtain rfl : WB = true := by simpa using hW
  by_cases h0 : c.block = 0
  · have K : Hid (E = 5) := hid (by rw [HE2.out, if_pos (.inr (.inr h0))])
    have g0 : (c.block == 0) = true := by rw [h0]; rfl
    clear d11 HE2 h0
    go_wp2
    go_ret
    exact ⟨ret_i K.out.symm, BF.out⟩
  have HE3 : Hid (E = if 8 < nT then 6 else if RB = false then 5 else if 6 < nA then 6 else 0) := hid (by rw [HE2.out, if_neg]; rintro (h | h | h); exact NI.out h; cases h; exact h0 h)
  have g0 : (c.block == 0) = false := by simpa using h0
  clear h0 HE2 NI
  by_cases h8 : 8 < nT
  · have K : Hid (E = 6) := hid (by rw [HE3.out, if_pos h8])
    have h8' : (8 : Int) < (nT : Int) := by omega
    clear HE3
    go_wp2
    go_ret
    exact ⟨ret_i K.out.symm, BF.out⟩
  have HE4 : Hid (E = if RB = false then 5 else if 6 < nA then 6 else 0) := hid (by rw [HE3.out, if_neg h8])
  have h8' : (nT : Int) ≤ 8 := by omega
  clear HE3 h8
  go_wp2_with fail
  refine (cR.out w4 B4.out).mono ?_
  rintro e w5 ⟨rfl, b5⟩
  have B5 := hid (bel_on B4.out b5)
  clear b5 BF cR d9 d11 B4
  obtain ⟨Y1, Y2, _, _, BW⟩ := X.out w5 B5.out
  have d13 := Y2.cell 13 _ rfl
  rw [← HNA.out] at d13
  have BF := hid BW
  clear Y1 Y2 BW
  by_cases hR : RB = false
  · have K : Hid (E = 5) := hid (by rw [HE4.out, if_pos hR])
    subst hR
    clear HE4 d13
    go_wp2
    go_ret
    exact ⟨ret_i K.out.symm, BF.out⟩
  have HE5 : Hid (E = if 6 < nA then 6 else 0) := hid (by rw [HE4.out, if_neg hR])
  obtain rfl : RB = true := by simpa using hR
  clear HE4
  by_cases h6 : 6 < nA
  · have K : Hid (E = 6) := hid (by rw [HE5.out, if_pos h6])
    have h6' : (6 : Int) < (nA : Int) := by omega
    go_wp2
    go_ret
    exact ⟨ret_i K.out.symm, BF.out⟩
  · have K : Hid (E = 0) := hid (by rw [HE5.out, if_neg h6])
    have h6' : (nA : Int) ≤ 6 := by omega
    go_wp2
    go_ret
    exact ⟨ret_i K.out.symm, BF.out⟩
end Go.Proofs.YtjgogpaedaffkaaGreat.R9
