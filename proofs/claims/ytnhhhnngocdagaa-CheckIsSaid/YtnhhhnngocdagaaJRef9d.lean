/- The document's answer for layer 2: products divided and rounded. -/
import Derived.Test.YtnhhhnngocdagaaJRef2b
import Derived.Test.YtnhhhnngocdagaaJExact
namespace Go.Proofs.Ytnhhhnngocdagaa.R2
open Go.RowKit P Ex R1
set_option maxHeartbeats 1000000 in
theorem edge_any (p c mode : Int) (w : World) (hp : p.natAbs < two127) (hc : I64 c) (hc0 : 0 < c) (hm : goodm mode = true) (hl : p < -9223372036854775808 * c) :
    Calls Try.prog 76 #[W p, .int .i64 c, .int .i64 mode] w fun e w' => e = .returned (.tuple #[.int .i64 (cut64 (rnd p c mode)), .bool (ok64 (rnd p c mode))]) ∧ Below w.heap.size w w' := by
  obtain ⟨y, hy⟩ : ∃ y, y = -9223372036854775808 * c := ⟨_, rfl⟩
  obtain ⟨n, hn⟩ : ∃ n, n = -p := ⟨_, rfl⟩
  obtain ⟨d, hd⟩ : ∃ d, d = y + n := ⟨_, rfl⟩
  have HY : Hid (y.natAbs < two127) := by show _ < _; rw [hy]; exact prod_lt' (by unfold I64; omega) hc
  have HN : Hid (n.natAbs < two127) := by show _ < _; rw [hn, Int.natAbs_neg]; exact hp
  have EY := hid hy
  have EN := hid hn
  have ED := hid hd
  have HD : Hid (0 < d) := by show _ < _; omega
  have HP := hid hp
  have HC := hid hc
  have HC0 := hid hc0
  have HM := hid hm
  clear hp hc hc0 hm hl hy hn hd
  rw [W_parts p]
  go_enter Try.func76, Try.ntmps76
  go_upto_region 2 with fail
  obtain ⟨w1, hw, hsz, hB, L1⟩ := boxed1 w (.bool (decide (p < 0))) (.int .u64 (hiN p.natAbs)) (.int .u64 (loN p.natAbs)) 110
  rw [hw]
  have HB := hid hB
  have keep : ∀ w', Below w1.heap.size w1 w' → w'.cell? ⟨w.heap.size, 0, none⟩ = some (.bool (decide (p < 0))) ∧ w'.cell? ⟨w.heap.size, 1, none⟩ = some (.int .u64 (hiN p.natAbs)) ∧ w'.cell? ⟨w.heap.size, 2, none⟩ = some (.int .u64 (loN p.natAbs)) ∧ Below w1.heap.size w1 w' :=
    fun w' hb => ⟨(L1.on hb).c0, (L1.on hb).c1, (L1.on hb).c2, hb⟩
  have K := hid keep
  have HSZ := hid hsz
  clear keep hw hB hsz L1
  go_cut [9] (fun s9 wx => ∃ k : Nat, s9 = .pointer (some ⟨k, 0, none⟩) ∧ Hid (Lies3 wx k (.bool (decide (d < 0))) (.int .u64 (hiN d.natAbs)) (.int .u64 (loN d.natAbs)) ∧ Below w1.heap.size w1 wx))
  case first =>
    go_region_held3 (fun w' => w'.cell? ⟨w.heap.size, 0, none⟩ = some (.bool (decide (p < 0))) ∧ w'.cell? ⟨w.heap.size, 1, none⟩ = some (.int .u64 (hiN p.natAbs)) ∧ w'.cell? ⟨w.heap.size, 2, none⟩ = some (.int .u64 (loN p.natAbs)) ∧ Below w1.heap.size w1 w')
      ((refine K.out _ ?_; repeat (first | assumption | exact Below.refl _ _ | (refine Below.drew ?_) | (refine below_on ?_ ‹_›) | (refine alloc_on ?_ _) | (refine Below.setCell ?_ (by first | omega | (simp <;> omega)) _))))
      (first
      | (go_at_call 73
         refine (R1.mul_any (-9223372036854775808) c _ (by unfold I64; omega) HC.out).mono ?_
         rintro e w2 ⟨rfl, hb1⟩
         have s2 : w1.heap.size ≤ w2.heap.size := by have := hb1.size; first | exact this | (simp at this; omega)
         first | have L := Lies3.later_drew (k := w1.heap.size) hb1 rfl | have L := Lies3.later (k := w1.heap.size) hb1 rfl | skip
         rw [← EY.out, W_parts y])
      | (go_at_call 75
         refine (opposite_any p _).mono ?_
         rintro e w3 ⟨rfl, hb2⟩
         have s3 : w2.heap.size ≤ w3.heap.size := by have := hb2.size; first | exact this | (simp at this; omega)
         first | have L := Lies3.later (k := w2.heap.size) hb2 rfl | (have M := L.on hb2; clear L; have L := M; clear M) | skip
         rw [← EN.out, W_parts n])
      | (go_at_call 58
         refine (R1.add_any y n _ HY.out HN.out).mono ?_
         rintro e w4 ⟨rfl, hb3⟩
         have s4 : w3.heap.size ≤ w4.heap.size := by have := hb3.size; first | exact this | (simp at this; omega)
         first | have L := Lies3.later (k := w3.heap.size) hb3 rfl | (have M := L.on hb3; clear L; have L := M; clear M) | skip
         try obtain ⟨l1, l2, l3, l4, l5, l6, l7⟩ := id L
         rw [← ED.out, W_parts d]))
    all_goals
      go_wp2
      go_meet
      first
        | exact ⟨_, rfl, L.set _ _ _, by repeat (first | assumption | exact Below.refl _ _ | (refine Below.drew ?_) | (refine below_on ?_ ‹_›) | (refine alloc_on ?_ _) | (refine Below.setCell ?_ (by first | omega | (simp <;> omega)) _))⟩
        | exact ⟨_, rfl, Lies3.new rfl, by repeat (first | assumption | exact Below.refl _ _ | (refine Below.drew ?_) | (refine below_on ?_ ‹_›) | (refine alloc_on ?_ _) | (refine Below.setCell ?_ (by first | omega | (simp <;> omega)) _))⟩
  case rest =>
    obtain ⟨k, rfl, HL⟩ := hcut
    obtain ⟨l0, l1, l2, l3, _, _, _⟩ := HL.out.1
    have BB : Hid (Below w.heap.size w wc) := below_on HB.out (below_on HL.out.2 (Below.refl _ _))
    have d0 := HD.out
    have hp : p = -9223372036854775808 * c - d := by have h1 := EY.out; have h2 := EN.out; have h3 := ED.out; omega
    have hmode : mode = 0 ∨ mode = 1 ∨ mode = 2 ∨ mode = 3 := by have := (goodm_iff mode).1 HM.out; omega
    have c0 := HC0.out
    have c1 : c ≤ 9223372036854775807 := by have := HC.out; unfold I64 at this; omega
    have hl := hi_lo d.natAbs
    have hlt := loN_lt d.natAbs
    rw [decide_eq_false (show ¬ d < 0 by omega)] at l1
    clear K HSZ HY HN EY EN ED HL
    by_cases hh : 0 < hiN d.natAbs
    · have HX := hid (edge_far (mode := mode) c0 (show c ≤ d by omega) hp)
      clear hp hmode hl hlt
      go_wp2
      go_ret2
      exact ⟨ret_2 (cut64_f HX.out).symm (ok64_f HX.out).symm, BB.out⟩
    · have eh : ((hiN d.natAbs : Nat) : Int) = 0 := by omega
      have el : ((loN d.natAbs : Nat) : Int) = d := by omega
      rw [eh] at l2
      rw [el] at l3
      clear hl hlt hh eh el
      by_cases hf : c ≤ d
      · have HX := hid (edge_far (mode := mode) c0 hf hp)
        clear hp hmode
        go_wp2
        go_ret2
        exact ⟨ret_2 (cut64_f HX.out).symm (ok64_f HX.out).symm, BB.out⟩
      · have hlt : d < c := by omega
        by_cases hy : mode = 1 ∨ ((mode = 2 ∨ mode = 3) ∧ d ≤ c - d)
        · have HX := hid (edge_yes d0 hlt hp hy)
          clear hp hmode
          rcases hy with rfl | ⟨rfl | rfl, hy⟩
          · go_wp2
            go_ret2
            exact ⟨ret_2 HX.out.1.symm HX.out.2.symm, BB.out⟩
          all_goals
            by_cases hz : d < c - d
            · go_wp2
              go_ret2
              exact ⟨ret_2 HX.out.1.symm HX.out.2.symm, BB.out⟩
            · have hz2 : (d == c - d) = true := by simp; omega
              have hz3 : decide (d < c - d) = false := by simp; omega
              clear hz hy
              go_wp2
              go_ret2
              exact ⟨ret_2 HX.out.1.symm HX.out.2.symm, BB.out⟩
        · have HX := hid (edge_no d0 hlt hp (show mode = 0 ∨ ((mode = 2 ∨ mode = 3) ∧ ¬ d ≤ c - d) by omega))
          clear hp
          rcases hmode with rfl | rfl | rfl | rfl
          · clear hy
            go_wp2
            go_ret2
            exact ⟨ret_2 HX.out.1.symm HX.out.2.symm, BB.out⟩
          · exact absurd (Or.inl rfl) hy
          all_goals
            have hz2 : (d == c - d) = false := by simp; omega
            have hz3 : decide (d < c - d) = false := by simp; omega
            clear hy
            go_wp2
            go_ret2
            exact ⟨ret_2 HX.out.1.symm HX.out.2.symm, BB.out⟩
end Go.Proofs.Ytnhhhnngocdagaa.R2
/- The document's answer for layer 2: MulDiv. -/
namespace Go.Proofs.Ytnhhhnngocdagaa.R2
open Go.RowKit P Ex R1
theorem muldiv_c (a b c mode : Int) (w : World) (hc : c ≤ 0) :
    Calls Try.prog 56 #[.int .i64 a, .int .i64 b, .int .i64 c, .int .i64 mode] w fun e w' => e = .returned (.tuple #[.int .i64 0, .bool false]) ∧ w = w' := by
  have e0 : decide (c ≤ 0) = true := by simpa using hc
  clear hc
  go_enter Try.func56, Try.ntmps56
  go_wp2
  go_ret2
  exact ⟨rfl, rfl⟩
theorem muldiv_m (a b c mode : Int) (w : World) (hc : 0 < c) (hm : goodm mode = false) :
    Calls Try.prog 56 #[.int .i64 a, .int .i64 b, .int .i64 c, .int .i64 mode] w fun e w' => e = .returned (.tuple #[.int .i64 0, .bool false]) ∧ w = w' := by
  have e0 : decide (c ≤ 0) = false := by simp; omega
  have hb : mode < 0 ∨ (¬ mode < 0 ∧ 3 < mode) := by unfold goodm at hm; simp at hm; omega
  clear hc hm
  rcases hb with h | ⟨h1, h2⟩
  · have e1 : decide (mode < 0) = true := by simpa using h
    clear h
    go_enter Try.func56, Try.ntmps56
    go_wp2
    go_ret2
    exact ⟨rfl, rfl⟩
  · have e1 : decide (mode < 0) = false := by simpa using h1
    have e2 : decide (3 < mode) = true := by simpa using h2
    clear h1 h2
    go_enter Try.func56, Try.ntmps56
    go_wp2
    go_ret2
    exact ⟨rfl, rfl⟩
set_option maxRecDepth 100000 in
set_option maxHeartbeats 4000000 in
theorem muldiv_good (a b c mode : Int) (w : World) (ha : I64 a) (hb : I64 b) (hc : I64 c) (hc0 : 0 < c) (hm : goodm mode = true) :
    Calls Try.prog 56 #[.int .i64 a, .int .i64 b, .int .i64 c, .int .i64 mode] w fun e w' => e = .returned (.tuple #[.int .i64 (cut64 (rnd (a * b) c mode)), .bool (ok64 (rnd (a * b) c mode))]) ∧ Below w.heap.size w w' := by
  obtain ⟨p, hp⟩ : ∃ p, p = a * b := ⟨_, rfl⟩
  have HP : Hid (p.natAbs < two127) := by show _ < _; rw [hp]; exact prod_lt' ha hb
  rw [← hp]
  obtain ⟨n, hn⟩ : ∃ n, n = flo p c := ⟨_, rfl⟩
  obtain ⟨o, ho⟩ : ∃ o, o = fok p c := ⟨_, rfl⟩
  obtain ⟨z, hz⟩ : ∃ z, z = n * c := ⟨_, rfl⟩
  obtain ⟨y, hy⟩ : ∃ y, y = -z := ⟨_, rfl⟩
  obtain ⟨v, hv⟩ : ∃ v, v = p + y := ⟨_, rfl⟩
  have HI : Hid (I64 n) := by show I64 n; rw [hn]; exact i64_flo p c hc0
  have HZ : Hid (z.natAbs < two127) := by show _ < _; rw [hz]; exact prod_lt' HI.out hc
  have HY : Hid (y.natAbs < two127) := by show _ < _; rw [hy, Int.natAbs_neg]; exact HZ.out
  have e0 : decide (c ≤ 0) = false := by simp; omega
  have e1 : decide (mode < 0) = false := by have := (goodm_iff mode).1 hm; simp; omega
  have e2 : decide (3 < mode) = false := by have := (goodm_iff mode).1 hm; simp; omega
  have HA := hid ha
  have HB' := hid hb
  have HC := hid hc
  have HC0 := hid hc0
  have HM := hid hm
  have EP := hid hp
  have EN := hid hn
  have EO := hid ho
  have EZ := hid hz
  have EY := hid hy
  have EV := hid hv
  clear ha hb hc hc0 hm hp hn ho hz hy hv
  go_enter Try.func56, Try.ntmps56
  go_wp2_with fail
  refine (R1.mul_any a b _ HA.out HB'.out).mono ?_; rintro e w0 ⟨rfl, hb0⟩; rw [← EP.out, W_parts p]
  have B0 : Hid (Below w.heap.size w w0) := hb0
  clear hb0
  go_wp2_with fail
  refine (floor_any p c _ HP.out HC.out HC0.out).mono ?_; rintro e w1 ⟨rfl, hb1⟩; rw [← EN.out, ← EO.out]
  have B1 : Hid (Below w.heap.size w w1) := below_on B0.out (below_via ((Below.refl _ _).alloc (Nat.le_refl _) _) hb1 (by simp))
  have L1 : Lies3 w1 w0.heap.size (.bool (decide (p < 0))) (.int .u64 (hiN p.natAbs)) (.int .u64 (loN p.natAbs)) := Lies3.later hb1 rfl
  clear hb1
  go_upto_region 5 with fail
  generalize w0.heap.size = k0 at *
  have keep : ∀ w', Below w1.heap.size w1 w' → w'.cell? ⟨k0, 0, none⟩ = some (.bool (decide (p < 0))) ∧ w'.cell? ⟨k0, 1, none⟩ = some (.int .u64 (hiN p.natAbs)) ∧ w'.cell? ⟨k0, 2, none⟩ = some (.int .u64 (loN p.natAbs)) ∧ Below w1.heap.size w1 w' :=
    fun w' hb => ⟨(L1.on hb).c0, (L1.on hb).c1, (L1.on hb).c2, hb⟩
  have K := hid keep
  have HL1 := hid L1
  clear keep L1
  go_cut [13] (fun s13 wx => ∃ k : Nat, s13 = .pointer (some ⟨k, 0, none⟩) ∧ Hid (Lies3 wx k (.bool (decide (v < 0))) (.int .u64 (hiN v.natAbs)) (.int .u64 (loN v.natAbs)) ∧ Below w1.heap.size w1 wx))
  case first =>
    go_region_held3 (fun w' => w'.cell? ⟨k0, 0, none⟩ = some (.bool (decide (p < 0))) ∧ w'.cell? ⟨k0, 1, none⟩ = some (.int .u64 (hiN p.natAbs)) ∧ w'.cell? ⟨k0, 2, none⟩ = some (.int .u64 (loN p.natAbs)) ∧ Below w1.heap.size w1 w')
      ((refine K.out _ ?_; repeat (first | assumption | exact Below.refl _ _ | (refine Below.drew ?_) | (refine below_on ?_ ‹_›) | (refine alloc_on ?_ _) | (refine Below.setCell ?_ (by first | omega | (simp <;> omega)) _))))
      (first
      | (go_at_call 73
         refine (R1.mul_any n c _ HI.out HC.out).mono ?_
         rintro e w2 ⟨rfl, hb1⟩
         have s2 : w1.heap.size ≤ w2.heap.size := by have := hb1.size; first | exact this | (simp at this; omega)
         first | have L := Lies3.later_drew (k := w1.heap.size) hb1 rfl | have L := Lies3.later (k := w1.heap.size) hb1 rfl | skip
         rw [← EZ.out, W_parts z])
      | (go_at_call 75
         refine (opposite_any z _).mono ?_
         rintro e w3 ⟨rfl, hb2⟩
         have s3 : w2.heap.size ≤ w3.heap.size := by have := hb2.size; first | exact this | (simp at this; omega)
         first | have L := Lies3.later (k := w2.heap.size) hb2 rfl | (have M := L.on hb2; clear L; have L := M; clear M) | skip
         rw [← EY.out, W_parts y])
      | (go_at_call 58
         refine (R1.add_any p y _ HP.out HY.out).mono ?_
         rintro e w4 ⟨rfl, hb3⟩
         have s4 : w3.heap.size ≤ w4.heap.size := by have := hb3.size; first | exact this | (simp at this; omega)
         first | have L := Lies3.later (k := w3.heap.size) hb3 rfl | (have M := L.on hb3; clear L; have L := M; clear M) | skip
         try obtain ⟨l1, l2, l3, l4, l5, l6, l7⟩ := id L
         rw [← EV.out, W_parts v]))
    all_goals
      go_wp2
      go_meet
      first
        | exact ⟨_, rfl, L.set _ _ _, by repeat (first | assumption | exact Below.refl _ _ | (refine Below.drew ?_) | (refine below_on ?_ ‹_›) | (refine alloc_on ?_ _) | (refine Below.setCell ?_ (by first | omega | (simp <;> omega)) _))⟩
        | exact ⟨_, rfl, Lies3.new rfl, by repeat (first | assumption | exact Below.refl _ _ | (refine Below.drew ?_) | (refine below_on ?_ ‹_›) | (refine alloc_on ?_ _) | (refine Below.setCell ?_ (by first | omega | (simp <;> omega)) _))⟩
  case rest =>
    obtain ⟨k, rfl, HL⟩ := hcut
    obtain ⟨l0, l1, l2, l3, _, _, _⟩ := HL.out.1
    have BB : Hid (Below w.heap.size w wc) := below_on B1.out (below_on HL.out.2 (Below.refl _ _))
    have c0 := HC0.out
    have c1 : c ≤ 9223372036854775807 := by have := HC.out; unfold I64 at this; omega
    have hv : v = p - n * c := by have h1 := EZ.out; have h2 := EY.out; have h3 := EV.out; omega
    have hl := hi_lo v.natAbs
    have hlt := loN_lt v.natAbs
    rcases flo_cases p c c0 with ⟨f1, f2, f3⟩ | ⟨f1, f2, f3, f4⟩ | ⟨f1, f2, f3, f4⟩
    · -- below the least number: the edge
      rw [← EO.out] at f1
      have HE := hid (fun w => edge_any p c mode w HP.out HC.out c0 HM.out f3)
      obtain ⟨m0, m1, m2, m3, _, _, _⟩ := HL1.out.on HL.out.2
      subst f1
      clear f2 f3 hl hlt hv K HL1 HL
      go_wp2_with fail
      refine (HE.out _).mono ?_; rintro e w5 ⟨rfl, hb5⟩
      have B5 : Hid (Below w.heap.size w w5) := below_on BB.out hb5
      clear hb5
      rcases Bool.eq_false_or_eq_true (ok64 (rnd p c mode)) with ok | ok
      · have OK := hid ok
        rw [ok]
        clear ok
        go_wp2
        go_ret2
        exact ⟨ret_2 rfl OK.out.symm, B5.out⟩
      · have OK := hid ok
        have OZ : Hid (cut64 (rnd p c mode) = 0) := by show _ = _; unfold cut64; rw [ok]; rfl
        rw [ok]
        clear ok
        go_wp2
        go_ret2
        exact ⟨ret_2 OZ.out.symm OK.out.symm, B5.out⟩
    · -- beyond the greatest one
      rw [← EO.out] at f1
      subst f1
      rw [← EN.out] at f2
      rw [f2] at hv
      have HX := hid (rnd_past (mode := mode) f3)
      by_cases hh : 0 < hiN v.natAbs
      · clear f2 f3 f4 hl hlt hv K HL1 HL
        go_wp2
        go_ret2
        exact ⟨ret_2 HX.out.1.symm HX.out.2.symm, BB.out⟩
      · have eh : ((hiN v.natAbs : Nat) : Int) = 0 := by omega
        have el : ((loN v.natAbs : Nat) : Int) = v := by omega
        rw [eh] at l2
        rw [el] at l3
        have hcv : c ≤ v := by omega
        clear f2 f3 f4 hl hlt hv hh eh el K HL1 HL
        go_wp2
        go_ret2
        exact ⟨ret_2 HX.out.1.symm HX.out.2.symm, BB.out⟩
    · rw [← EO.out] at f1
      subst f1
      rw [← EN.out] at f2
      have r0 := Int.emod_nonneg p (show c ≠ 0 by omega)
      have r1 := Int.emod_lt_of_pos p c0
      rw [f2] at hv
      rw [f4] at hv
      have eh : ((hiN v.natAbs : Nat) : Int) = 0 := by rw [hiN_small (by omega)]; rfl
      have el : ((loN v.natAbs : Nat) : Int) = p % c := by rw [loN_small (by omega)]; omega
      rw [eh] at l2
      rw [el] at l3
      have F2 := hid f2
      have F3 := hid f3
      have hu := rup_asked (q := p / c) (r := p % c) (c := c) HM.out
      rw [← f2] at hu
      have HR : Hid (rup n (p % c) c mode = rup (p / c) (p % c) c mode) := by show _ = _; rw [← f2]
      generalize hr : p % c = r at *
      have ERR := hid hr
      clear f2 f3 f4 hl hlt hv eh el hr K HL1 HL
      have T := tmod2 n
      rcases hu with ⟨hu, hcase⟩ | ⟨hu, hcase⟩
      · have HX := hid (rnd_same (p := p) (c := c) (mode := mode) (by rw [ERR.out, ← HR.out]; exact hu) F3.out)
        clear hu HR
        rcases hcase with rfl | ⟨rfl, h⟩ | ⟨rfl, h⟩ | ⟨rfl, h⟩ | ⟨rfl, h, h2⟩
        · clear T
          go_wp2
          go_ret2
          exact ⟨ret_2 (F2.out.trans HX.out.1.symm) HX.out.2.symm, BB.out⟩
        · clear T
          have t1 : decide (0 < r) = false := by simpa using h
          clear h
          go_wp2
          go_ret2
          exact ⟨ret_2 (F2.out.trans HX.out.1.symm) HX.out.2.symm, BB.out⟩
        · clear T
          have t1 : decide (c - r ≤ r) = false := by simpa using h
          clear h
          go_wp2
          go_ret2
          exact ⟨ret_2 (F2.out.trans HX.out.1.symm) HX.out.2.symm, BB.out⟩
        · clear T
          have t1 : decide (c - r < r) = false := by simp; omega
          have t2 : (r == c - r) = false := by simp; omega
          clear h
          go_wp2
          go_ret2
          exact ⟨ret_2 (F2.out.trans HX.out.1.symm) HX.out.2.symm, BB.out⟩
        · have t1 : decide (c - r < r) = false := by simp; omega
          have t2 : (r == c - r) = true := by simp; omega
          have t3 : (n.tmod 2 != 0) = false := by rw [T]; simpa using h2
          clear h h2 T
          go_wp2
          go_ret2
          exact ⟨ret_2 (F2.out.trans HX.out.1.symm) HX.out.2.symm, BB.out⟩
      · by_cases hx : n = 9223372036854775807
        · have HX := hid (rnd_last (p := p) (c := c) (mode := mode) (by rw [ERR.out, ← HR.out]; exact hu) (F2.out.symm.trans hx))
          have ex : (n == 9223372036854775807) = true := by simpa using hx
          clear hu HR hx
          rcases hcase with ⟨rfl, h⟩ | ⟨rfl, h⟩ | ⟨rfl, h⟩ | ⟨rfl, h, h2⟩
          · clear T
            have t1 : decide (0 < r) = true := by simpa using h
            clear h
            go_wp2
            go_ret2
            exact ⟨ret_2 HX.out.1.symm HX.out.2.symm, BB.out⟩
          · clear T
            have t1 : decide (c - r ≤ r) = true := by simpa using h
            clear h
            go_wp2
            go_ret2
            exact ⟨ret_2 HX.out.1.symm HX.out.2.symm, BB.out⟩
          · clear T
            have t1 : decide (c - r < r) = true := by simpa using h
            clear h
            go_wp2
            go_ret2
            exact ⟨ret_2 HX.out.1.symm HX.out.2.symm, BB.out⟩
          · have t1 : decide (c - r < r) = false := by simp; omega
            have t2 : (r == c - r) = true := by simp; omega
            have t3 : (n.tmod 2 != 0) = true := by rw [T]; simpa using h2
            clear h h2 T
            go_wp2
            go_ret2
            exact ⟨ret_2 HX.out.1.symm HX.out.2.symm, BB.out⟩
        · have HX := hid (rnd_more (p := p) (c := c) (mode := mode) (by rw [ERR.out, ← HR.out]; exact hu) F3.out (by rw [← F2.out]; exact hx))
          have ex : (n == 9223372036854775807) = false := by simpa using hx
          have n0 : -9223372036854775808 ≤ n := HI.out.1
          have n1 : n + 1 ≤ 9223372036854775807 := by have := HI.out.2; omega
          have F2' : Hid (n + 1 = p / c + 1) := by show _ = _; rw [F2.out]
          clear hu HR hx
          rcases hcase with ⟨rfl, h⟩ | ⟨rfl, h⟩ | ⟨rfl, h⟩ | ⟨rfl, h, h2⟩
          · clear T
            have t1 : decide (0 < r) = true := by simpa using h
            clear h
            go_wp2
            go_ret2
            exact ⟨ret_2 (F2'.out.trans HX.out.1.symm) HX.out.2.symm, BB.out⟩
          · clear T
            have t1 : decide (c - r ≤ r) = true := by simpa using h
            clear h
            go_wp2
            go_ret2
            exact ⟨ret_2 (F2'.out.trans HX.out.1.symm) HX.out.2.symm, BB.out⟩
          · clear T
            have t1 : decide (c - r < r) = true := by simpa using h
            clear h
            go_wp2
            go_ret2
            exact ⟨ret_2 (F2'.out.trans HX.out.1.symm) HX.out.2.symm, BB.out⟩
          · have t1 : decide (c - r < r) = false := by simp; omega
            have t2 : (r == c - r) = true := by simp; omega
            have t3 : (n.tmod 2 != 0) = true := by rw [T]; simpa using h2
            clear h h2 T
            go_wp2
            go_ret2
            exact ⟨ret_2 (F2'.out.trans HX.out.1.symm) HX.out.2.symm, BB.out⟩
theorem muldiv_any (a b c mode : Int) (w : World) (ha : I64 a) (hb : I64 b) (hc : I64 c) :
    Calls Try.prog 56 #[.int .i64 a, .int .i64 b, .int .i64 c, .int .i64 mode] w fun e w' => e = .returned (.tuple #[.int .i64 (mdn (a * b) c mode), .bool (mdb (a * b) c mode)]) ∧ Below w.heap.size w w' := by
  by_cases hc0 : 0 < c
  · by_cases hm : goodm mode = true
    · rw [mdn_good hc0 hm, mdb_good hc0 hm]
      exact muldiv_good a b c mode w ha hb hc hc0 hm
    · have hm' : goodm mode = false := by simpa using hm
      rw [mdn_m hm', mdb_m hm']
      refine (muldiv_m a b c mode w hc0 hm').mono ?_
      rintro e w' ⟨rfl, rfl⟩
      exact ⟨rfl, Below.refl _ _⟩
  · rw [mdn_c (by omega), mdb_c (by omega)]
    refine (muldiv_c a b c mode w (by omega)).mono ?_
    rintro e w' ⟨rfl, rfl⟩
    exact ⟨rfl, Below.refl _ _⟩
end Go.Proofs.Ytnhhhnngocdagaa.R2
/- The document's answers for layer 9 (poundageref09): Most. -/
namespace Go.Proofs.Ytnhhhnngocdagaa.R9
open Go.RowKit Go.Sort P Mm Md R6 L06
theorem top_i64 {ts : List Tier} (h : ∀ t ∈ ts, 0 ≤ t.rate ∧ t.rate ≤ 1000000000000) (i : Nat) : 0 ≤ topRate (ts.take i) ∧ topRate (ts.take i) ≤ 1000000000000 := by
  have : ∀ (l : List Tier) (r : Int), (∀ t ∈ l, 0 ≤ t.rate ∧ t.rate ≤ 1000000000000) → 0 ≤ r ∧ r ≤ 1000000000000 → 0 ≤ l.foldl (fun r t => max r t.rate) r ∧ l.foldl (fun r t => max r t.rate) r ≤ 1000000000000 := by
    intro l
    induction l with
    | nil => intro r _ h; exact h
    | cons t q ih =>
      intro r h1 h2
      have := h1 t (List.mem_cons_self ..)
      exact ih _ (fun x hx => h1 x (List.mem_cons_of_mem _ hx)) (by show 0 ≤ max r t.rate ∧ max r t.rate ≤ _; omega)
  exact this _ 0 (fun t ht => h t (List.mem_of_mem_take ht)) (by omega)
theorem rates_of {c : Charge} (g : ChOk c) : ∀ t ∈ c.tiers, 0 ≤ t.rate ∧ t.rate ≤ 1000000000000 := by
  obtain ⟨ts, r, e, h, hr⟩ := g.tiers
  rw [e]
  intro t ht
  rcases List.mem_append.1 ht with ht | ht
  · exact (h t ht).rate
  · obtain rfl : t = ⟨0, r⟩ := by simpa using ht
    exact hr
theorem lim_t {n : Int} {b : Bool} (hb : b = true) (hn : n < maxBound) : lim n b = some n := by
  unfold lim; rw [if_pos ⟨hb, hn⟩]
theorem lim_f {n : Int} {b : Bool} (hb : b = false) : lim n b = none := by
  unfold lim; rw [if_neg (by rw [hb]; simp)]
theorem lim_g {n : Int} {b : Bool} (hn : maxBound ≤ n) : lim n b = none := by
  unfold lim; rw [if_neg (fun h => by have := h.2; omega)]
theorem ret_m {o : Option Int} {n : Int} {k : Bool} (h : n = o.getD 0) (h2 : k = o.isSome) : (Ending.returned (.tuple #[.int .i64 n, .bool k]) : Ending) = .returned (.tuple #[.int .i64 (o.getD 0), .bool o.isSome]) := by rw [h, h2]
theorem ret_n {o : Option Int} (h : o = none) : (Ending.returned (.tuple #[.int .i64 0, .bool false]) : Ending) = .returned (.tuple #[.int .i64 (o.getD 0), .bool o.isSome]) := by rw [h]; rfl
theorem ret_v {o : Option Int} {n : Int} (h : o = some n) : (Ending.returned (.tuple #[.int .i64 n, .bool true]) : Ending) = .returned (.tuple #[.int .i64 (o.getD 0), .bool o.isSome]) := by rw [h]; rfl
theorem max_if (a b : Int) : (if a < b then b else a) = max a b := by split <;> omega
theorem i64_mul (p c m : Int) : I64 (mdn p c m) := by
  unfold mdn; split
  · exact i64_cut _
  · unfold I64; omega
set_option maxHeartbeats 8000000 in
set_option maxRecDepth 100000 in
theorem most_any (c : Charge) (ta : Option Addr) (tc : Nat) (aa : Option Addr) (ac : Nat) (mx : Int) (w : World) (hc : ChargeLies w (chargeC c ta tc aa ac) c ta tc aa ac) (g : ChOk c) (hb0 : c.block ≠ 0) (hx0 : 0 ≤ mx) (hx1 : mx ≤ 2000) (ql : c.tiers.length ≤ 100000 ∧ c.adjusts.length ≤ 100000) :
    Calls Try.prog 44 #[.agg #[.string c.meter, .bool c.win.has, .int .i64 c.win.a.y, .int .i64 c.win.a.m, .int .i64 c.win.a.d, .int .i64 c.win.b.y, .int .i64 c.win.b.m, .int .i64 c.win.b.d, .int .i64 c.allowance, .int .i64 c.block, .int .i64 c.kind, .slice ta c.tiers.length tc, .int .i64 c.mode, .slice aa c.adjusts.length ac, .int .i64 c.line, .int .i64 c.col], .int .i64 mx] w fun e w' => e = .returned (.tuple #[.int .i64 ((mostOf c mx).getD 0), .bool (mostOf c mx).isSome]) ∧ Below w.heap.size w w' := by
  obtain ⟨w1, hw1⟩ : ∃ W, W = w.alloc (.cells [.string c.meter, .bool c.win.has, .int .i64 c.win.a.y, .int .i64 c.win.a.m, .int .i64 c.win.a.d, .int .i64 c.win.b.y, .int .i64 c.win.b.m, .int .i64 c.win.b.d, .int .i64 c.allowance, .int .i64 c.block, .int .i64 c.kind, .slice ta c.tiers.length tc, .int .i64 c.mode, .slice aa c.adjusts.length ac, .int .i64 c.line, .int .i64 c.col].toArray 58) := ⟨_, rfl⟩
  have b1 : Below w.heap.size w w1 := by rw [hw1]; exact bel_alloc _ _
  obtain ⟨k1, hk1⟩ : ∃ k, k = w.heap.size := ⟨_, rfl⟩
  have X1 : Box w1 k1 [.string c.meter, .bool c.win.has, .int .i64 c.win.a.y, .int .i64 c.win.a.m, .int .i64 c.win.a.d, .int .i64 c.win.b.y, .int .i64 c.win.b.m, .int .i64 c.win.b.d, .int .i64 c.allowance, .int .i64 c.block, .int .i64 c.kind, .slice ta c.tiers.length tc, .int .i64 c.mode, .slice aa c.adjusts.length ac, .int .i64 c.line, .int .i64 c.col] := by rw [hw1, hk1]; exact Box.new _ _ _
  obtain ⟨nT, hnT⟩ : ∃ n, n = c.tiers.length := ⟨_, rfl⟩
  obtain ⟨nA, hnA⟩ : ∃ n, n = c.adjusts.length := ⟨_, rfl⟩
  obtain ⟨al, hal⟩ : ∃ al, al = c.allowance := ⟨_, rfl⟩
  obtain ⟨bl, hbl⟩ : ∃ bl, bl = c.block := ⟨_, rfl⟩
  have C : Hid (∀ W, Below w1.heap.size w1 W → W.cell? ⟨k1, 8, none⟩ = some (.int .i64 al) ∧ W.cell? ⟨k1, 9, none⟩ = some (.int .i64 bl) ∧ W.cell? ⟨k1, 11, none⟩ = some (.slice ta nT tc) ∧ W.cell? ⟨k1, 13, none⟩ = some (.slice aa nA ac)) :=
    hid fun W b => by rw [hnT, hnA, hal, hbl]; exact ⟨(X1.on b).cell 8 _ rfl, (X1.on b).cell 9 _ rfl, (X1.on b).cell 11 _ rfl, (X1.on b).cell 13 _ rfl⟩
  have L0 : Hid (∀ W, Below w1.heap.size w1 W → Row tTier W ta nT tc c.tiers ∧ Row tAdj W aa nA ac c.adjusts ∧ Below w.heap.size w W) :=
    hid fun W b => by rw [hnT, hnA]; exact ⟨hc.tiers.on (bel_on b1 b), hc.adjusts.on (bel_on b1 b), bel_on b1 b⟩
  have a0 : 0 ≤ al := by rw [hal]; exact g.allow.1
  have a1 : al ≤ 1000000 := by rw [hal]; exact g.allow.2
  have l0 : 0 < bl := by have := g.block.1; rw [hbl]; omega
  have l1 : bl ≤ 1000000 := by rw [hbl]; exact g.block.2
  have qT : nT ≤ 100000 := by rw [hnT]; exact ql.1
  have qA : nA ≤ 100000 := by rw [hnA]; exact ql.2
  have uT : nT ≤ tc := by rw [hnT]; exact hc.tiers.hcap
  have uA : nA ≤ ac := by rw [hnA]; exact hc.adjusts.hcap
  obtain ⟨M, hM⟩ : ∃ M, M = mostOf c mx := ⟨_, rfl⟩
  rw [← hM]
  have HM : Hid (M = (lim (mdn (topRate c.tiers * qty mx al bl) 1000000 1) (mdb (topRate c.tiers * qty mx al bl) 1000000 1)).bind fun n => adjAll n c.adjusts) := hid (by rw [hM, hal, hbl]; rfl)
  have HnT := hid hnT
  have HnA := hid hnA
  have GR := hid (rates_of g)
  have GA := hid g.adjs
  have HW := hid hw1
  have HK := hid hk1
  clear hM hnT hnA hal hbl g hc b1 X1 hw1 hk1 hb0 ql
  go_enter Try.func44, Try.ntmps44
  go_upto_region 1 with fail
  rw [← HW.out, ← HK.out]
  clear HW HK
  go_wp2
  go_loopw [6] (fun q wr => ∃ (k : Nat) (q' : Int), q = .int .i64 q' ∧ 0 ≤ q' ∧ q' ≤ 2000000 ∧ Hid (q' = k * bl ∧ (k = 0 ∨ (k : Int) * bl - bl < mx - al)) ∧ wr = w1) (fun q _ => (mx - al - intOf q).toNat)
  case atStart => exact ⟨0, 0, rfl, by omega, by omega, hid ⟨by simp, .inl rfl⟩, rfl⟩
  case round =>
    obtain ⟨k, q, rfl, q0, q1, hq, hwr⟩ := hrel
    have hwr' := hwr.symm
    clear hwr
    subst hwr'
    obtain ⟨c8, c9, c11, c13⟩ := C.out w1 (Below.refl _ _)
    clear c13
    by_cases hlt : q < mx - al
    · have Hq : Hid (q + bl = ((k + 1 : Nat) : Int) * bl ∧ (k + 1 = 0 ∨ ((k + 1 : Nat) : Int) * bl - bl < mx - al)) := hid (by
        have e : ((k + 1 : Nat) : Int) * bl = (k : Int) * bl + bl := by rw [Int.natCast_succ, Int.add_mul, Int.one_mul]
        have := hq.out.1
        exact ⟨by omega, .inr (by omega)⟩)
      clear c11 hq
      go_wp2
      go_roundw
      case rel => exact ⟨k + 1, q + bl, rfl, by omega, by omega, Hq, trivial⟩
      case measure => simp [intOf]; omega
    · have Q : Hid (qty mx al bl = q) := hid (by
        have := hq.out
        rw [qty_count (k := k) l0 (by omega) this.2, ← this.1])
      rw [Q.out] at HM
      have hle : mx - al ≤ q := by omega
      clear hq hlt c9
      go_wp2
      clear c8 c11
      go_loopw [7, 27] (fun v i wx => ∃ (i' : Nat), v = .int .i64 (topRate (c.tiers.take i')) ∧ i = .int .i64 (i' : Int) ∧ i' ≤ nT ∧ Hid (Below w1.heap.size w1 wx)) (fun _ i _ => nT - (intOf i).toNat)
      case atStart => exact ⟨0, rfl, rfl, Nat.zero_le _, hid (Below.refl _ _)⟩
      case round =>
        obtain ⟨i', rfl, rfl, hi, hB⟩ := hrel
        by_cases hlt : i' < nT
        · obtain ⟨t, hti⟩ : ∃ m, c.tiers[i']? = some m := ⟨_, List.getElem?_eq_getElem (by have := HnT.out; omega)⟩
          have ST := hid (topRate_step hti)
          obtain ⟨b, o, e, lb, a0, a1, _⟩ := tier_at (L0.out _ hB.out).1 hti
          have B2 := hid (bel_on hB.out (bel_alloc _ (.cells [.int .i64 t.upto, .int .i64 t.rate].toArray 101)))
          obtain ⟨tr, htr⟩ : ∃ x, x = topRate (c.tiers.take i') := ⟨_, rfl⟩
          rw [← htr] at ST ⊢
          clear hti htr
          subst e
          go_wp2
          go_roundw
          case rel => exact ⟨i' + 1, by rw [ST.out, max_if], by simp, by omega, B2⟩
          case measure => simp [intOf]; omega
        · obtain rfl : i' = nT := by omega
          have ET : Hid (c.tiers.take i' = c.tiers) := hid (by rw [HnT.out, List.take_length])
          obtain ⟨tr, htr⟩ : ∃ x, x = topRate (c.tiers.take i') := ⟨_, rfl⟩
          have tr0 := (top_i64 GR.out i').1
          have tr1 := (top_i64 GR.out i').2
          rw [← htr] at tr0 tr1 ⊢
          rw [← ET.out, ← htr] at HM
          clear htr ET hlt hi
          have cM := fun W => R2.muldiv_any tr q 1000000 1 W (by unfold I64; omega) (by unfold I64; omega) (by unfold I64; omega)
          obtain ⟨N, hN⟩ : ∃ N, N = mdn (tr * q) 1000000 1 := ⟨_, rfl⟩
          obtain ⟨K, hK⟩ : ∃ N, N = mdb (tr * q) 1000000 1 := ⟨_, rfl⟩
          have iN : I64 N := by rw [hN]; exact i64_mul _ _ _
          rw [← hN, ← hK] at cM HM
          clear hN hK
          go_wp2_with fail
          refine (cM _).mono ?_
          rintro e wx ⟨rfl, b3⟩
          have B3 := hid (bel_on hB.out b3)
          clear b3 cM hB
          by_cases hK : K = false
          · subst hK
            have E : Hid (M = none) := hid (by rw [HM.out, lim_f rfl]; rfl)
            have BF := hid (L0.out _ B3.out).2.2
            clear iN
            go_wp2
            go_ret2
            exact ⟨ret_n E.out, BF.out⟩
          obtain rfl : K = true := by simpa using hK
          by_cases hg : 1152921504606846976 ≤ N
          · have E : Hid (M = none) := hid (by rw [HM.out, lim_g hg]; rfl)
            have BF := hid (L0.out _ B3.out).2.2
            clear iN
            go_wp2
            go_ret2
            exact ⟨ret_n E.out, BF.out⟩
          have HA : Hid (M = adjAll N c.adjusts) := hid (by rw [HM.out, lim_t rfl (by unfold maxBound; omega)]; rfl)
          have n0 : -9223372036854775808 ≤ N := iN.1
          have n1 : N < 1152921504606846976 := by omega
          obtain ⟨c8, c9, c11, c13⟩ := C.out _ B3.out
          clear c8 c9 c11 iN hg hK
          go_wp2
          clear c13
          go_loopw [10, 11, 51] (fun n ok i wy => ∃ (i' : Nat) (n' : Int), n = .int .i64 n' ∧ ok = .bool true ∧ i = .int .i64 (i' : Int) ∧ i' ≤ nA ∧ -9223372036854775808 ≤ n' ∧ n' < 1152921504606846976 ∧ Hid (M = adjAll n' (c.adjusts.drop i')) ∧ Hid (Below w1.heap.size w1 wy)) (fun _ _ i _ => nA - (intOf i).toNat)
          case atStart => exact ⟨0, N, rfl, rfl, rfl, Nat.zero_le _, n0, n1, HA, B3⟩
          case round =>
            clear n0 n1 HA B3
            obtain ⟨i', n', rfl, rfl, rfl, hi, n0, n1, hh, hB⟩ := hrel
            by_cases hlt : i' < nA
            · obtain ⟨a, hti⟩ : ∃ m, c.adjusts[i']? = some m := ⟨_, List.getElem?_eq_getElem (by have := HnA.out; omega)⟩
              have ST := hid (adjAll_step (n := n') hti)
              have ga := GA.out a (List.mem_of_getElem? hti)
              obtain ⟨b, o, e, lb, a0, a1, a2, _⟩ := adj_at (L0.out _ hB.out).2.1 hti
              have HM2 : Hid (M = (adjStep n' a).bind fun m => adjAll m (c.adjusts.drop (i' + 1))) := hid (by rw [hh.out, ST.out])
              obtain ⟨kd, an, am⟩ := a
              have B2 := hid (bel_on hB.out (bel_alloc _ (.cells [.int .i64 kd, .int .i64 an, .int .i64 am].toArray 93)))
              have g0 : 0 ≤ an := by rcases ga with h | h; exact h.2.1.1; exact h.2.1.1
              have g1 : an ≤ 1000000000000 := by rcases ga with h | h; have := h.2.1.2; (show an ≤ _); (have : an ≤ 100000000 := this); omega; exact h.2.1.2
              have g2 : kd = 1 ∨ kd = 2 ∨ kd = 3 ∨ kd = 4 := by rcases ga with h | h; exact .inl h.1; exact .inr h.1
              clear hti ga hh ST HM
              subst e
              rcases g2 with rfl | rfl | rfl | rfl
              · have cM := fun W => R2.muldiv_any n' an 100000 1 W (by unfold I64; omega) (by unfold I64; omega) (by unfold I64; omega)
                obtain ⟨N2, hN⟩ : ∃ N, N = mdn (n' * an) 100000 1 := ⟨_, rfl⟩
                obtain ⟨K, hK⟩ : ∃ N, N = mdb (n' * an) 100000 1 := ⟨_, rfl⟩
                have iN : I64 N2 := by rw [hN]; exact i64_mul _ _ _
                have SE : Hid (adjStep n' ⟨1, an, am⟩ = lim N2 K) := hid (by rw [hN, hK]; rfl)
                rw [← hN, ← hK] at cM
                clear hN hK
                go_wp2_with fail
                refine (cM _).mono ?_
                rintro e wz ⟨rfl, b3⟩
                have B4 := hid (bel_on B2.out b3)
                clear b3 cM hB B2
                have i0 := iN.1
                clear iN
                by_cases hK : K = false
                · subst hK
                  have E : Hid (M = none) := hid (by rw [HM2.out, SE.out, lim_f rfl]; rfl)
                  have BF := hid (L0.out _ B4.out).2.2
                  clear HM2
                  go_wp2
                  go_ret2
                  exact ⟨ret_n E.out, BF.out⟩
                obtain rfl : K = true := by simpa using hK
                clear hK
                by_cases hg : 1152921504606846976 ≤ N2
                · have E : Hid (M = none) := hid (by rw [HM2.out, SE.out, lim_g hg]; rfl)
                  have BF := hid (L0.out _ B4.out).2.2
                  clear HM2
                  go_wp2
                  go_ret2
                  exact ⟨ret_n E.out, BF.out⟩
                · have E : Hid (M = adjAll (N2) (c.adjusts.drop (i' + 1))) := hid (by rw [HM2.out, SE.out, lim_t rfl (by unfold maxBound; omega)]; rfl)
                  have v0 : -9223372036854775808 ≤ N2 := by omega
                  have v1 : N2 < 1152921504606846976 := by omega
                  clear HM2
                  go_wp2
                  go_roundw
                  case rel => exact ⟨i' + 1, N2, rfl, rfl, by simp, by omega, v0, v1, E, B4⟩
                  case measure => simp [intOf]; omega
              · by_cases hg : an < n'
                · have SE : Hid (adjStep n' ⟨2, an, am⟩ = some an) := hid (by show lim (if an < n' then an else n') true = _; rw [if_pos hg, lim_t rfl (by unfold maxBound; omega)])
                  have E : Hid (M = adjAll (an) (c.adjusts.drop (i' + 1))) := hid (by rw [HM2.out, SE.out]; rfl)
                  have v0 : -9223372036854775808 ≤ an := by omega
                  have v1 : an < 1152921504606846976 := by omega
                  clear HM2
                  go_wp2
                  go_roundw
                  case rel => exact ⟨i' + 1, an, rfl, rfl, by simp, by omega, v0, v1, E, B2⟩
                  case measure => simp [intOf]; omega
                · have SE : Hid (adjStep n' ⟨2, an, am⟩ = some n') := hid (by show lim (if an < n' then an else n') true = _; rw [if_neg hg, lim_t rfl (by unfold maxBound; omega)])
                  have E : Hid (M = adjAll (n') (c.adjusts.drop (i' + 1))) := hid (by rw [HM2.out, SE.out]; rfl)
                  have v0 : -9223372036854775808 ≤ n' := by omega
                  have v1 : n' < 1152921504606846976 := by omega
                  clear HM2
                  go_wp2
                  go_roundw
                  case rel => exact ⟨i' + 1, n', rfl, rfl, by simp, by omega, v0, v1, E, B2⟩
                  case measure => simp [intOf]; omega
              · by_cases hg : n' < an
                · have SE : Hid (adjStep n' ⟨3, an, am⟩ = some an) := hid (by show lim (if n' < an then an else n') true = _; rw [if_pos hg, lim_t rfl (by unfold maxBound; omega)])
                  have E : Hid (M = adjAll (an) (c.adjusts.drop (i' + 1))) := hid (by rw [HM2.out, SE.out]; rfl)
                  have v0 : -9223372036854775808 ≤ an := by omega
                  have v1 : an < 1152921504606846976 := by omega
                  clear HM2
                  go_wp2
                  go_roundw
                  case rel => exact ⟨i' + 1, an, rfl, rfl, by simp, by omega, v0, v1, E, B2⟩
                  case measure => simp [intOf]; omega
                · have SE : Hid (adjStep n' ⟨3, an, am⟩ = some n') := hid (by show lim (if n' < an then an else n') true = _; rw [if_neg hg, lim_t rfl (by unfold maxBound; omega)])
                  have E : Hid (M = adjAll (n') (c.adjusts.drop (i' + 1))) := hid (by rw [HM2.out, SE.out]; rfl)
                  have v0 : -9223372036854775808 ≤ n' := by omega
                  have v1 : n' < 1152921504606846976 := by omega
                  clear HM2
                  go_wp2
                  go_roundw
                  case rel => exact ⟨i' + 1, n', rfl, rfl, by simp, by omega, v0, v1, E, B2⟩
                  case measure => simp [intOf]; omega
              · have cN := fun W => R1.of_any n' W (by unfold I64; omega)
                have cA := fun W => R1.of_any an W (by unfold I64; omega)
                have cS := fun W => R1.add_any n' an W (by unfold two127; omega) (by unfold two127; omega)
                have cI := fun W => R1.int_any (n' + an) W
                rw [cut64_t (show I64 (n' + an) by unfold I64; omega), ok64_t (show I64 (n' + an) by unfold I64; omega)] at cI
                have SE : Hid (adjStep n' ⟨4, an, am⟩ = lim (n' + an) true) := hid (by show lim (cut64 (n' + an)) (ok64 (n' + an)) = _; rw [cut64_t (show I64 (n' + an) by unfold I64; omega), ok64_t (show I64 (n' + an) by unfold I64; omega)])
                obtain ⟨S, hS⟩ : ∃ S, S = n' + an := ⟨_, rfl⟩
                have s0 : -9223372036854775808 ≤ S := by omega
                rw [← hS] at cI cS SE
                obtain ⟨V1, hV1⟩ : ∃ V, V = R1.W n' := ⟨_, rfl⟩
                obtain ⟨V2, hV2⟩ : ∃ V, V = R1.W an := ⟨_, rfl⟩
                obtain ⟨V3, hV3⟩ : ∃ V, V = R1.W S := ⟨_, rfl⟩
                rw [← hV1] at cN cS
                rw [← hV2] at cA cS
                rw [← hV3] at cI cS
                clear hV1 hV2 hV3
                obtain ⟨wt, hwt⟩ : ∃ W, W = wr.alloc (.cells #[.int .i64 4, .int .i64 an, .int .i64 am] 93) := ⟨_, rfl⟩
                have xt : Box wt wr.heap.size [.int .i64 4, .int .i64 an, .int .i64 am] := by rw [hwt]; exact Box.new _ _ _
                have BT : Hid (Below w1.heap.size w1 wt) := hid (by rw [hwt]; exact B2.out)
                have HWT := hid hwt
                have t1 := cell_regrown (xt.cell 1 _ rfl)
                have qN := fun d os => Calls.regrown_of (cN (grow (redrawn wt d) os))
                have qA := fun d os => Calls.regrown_of (cA (grow (redrawn wt d) os))
                have qS := fun d os => Calls.regrown_of (cS (grow (redrawn wt d) os))
                have qI := fun d os => Calls.regrown_of (cI (grow (redrawn wt d) os))
                clear cN cA cS cI hwt xt hB B2 hS
                go_upto_region 26 with fail
                rw [← HWT.out]
                clear HWT a0 a1 a2
                refine wp_region_quiet_below (by kernel_rfl) (by kernel_rfl) ?_
                repeat (go_big_quiet_step (first | (go_at_call_of 59 (Value.int IntKind.i64 n'); exact qN _ _) | (go_at_call 59; exact qA _ _) | (go_at_call 58; exact qS _ _) | (go_at_call 57; exact qI _ _)))
                refine wpQuiet_nil ?_
                intro wz hw'
                obtain ⟨⟨dq, osq⟩, hw''⟩ := hw'
                have B4 : Hid (Below w1.heap.size w1 wz) := hid (by subst hw''; exact bel_on BT.out (below_regrown wt dq osq))
                clear hw'' qN qA qS qI t1 BT
                by_cases hg : 1152921504606846976 ≤ S
                · have E : Hid (M = none) := hid (by rw [HM2.out, SE.out, lim_g hg]; rfl)
                  have BF := hid (L0.out _ B4.out).2.2
                  clear HM2
                  go_wp2
                  go_ret2
                  exact ⟨ret_n E.out, BF.out⟩
                · have E : Hid (M = adjAll (S) (c.adjusts.drop (i' + 1))) := hid (by rw [HM2.out, SE.out, lim_t rfl (by unfold maxBound; omega)]; rfl)
                  have v0 : -9223372036854775808 ≤ S := by omega
                  have v1 : S < 1152921504606846976 := by omega
                  clear HM2
                  go_wp2
                  go_roundw
                  case rel => exact ⟨i' + 1, S, rfl, rfl, by simp, by omega, v0, v1, E, B4⟩
                  case measure => simp [intOf]; omega
            · obtain rfl : i' = nA := by omega
              have E : Hid (M = some n') := hid (by rw [hh.out, adjAll_end (by have := HnA.out; omega)])
              have BF := hid (L0.out _ hB.out).2.2
              clear hh HM
              go_wp2
              go_ret2
              exact ⟨ret_v E.out, BF.out⟩
end Go.Proofs.Ytnhhhnngocdagaa.R9
