/- The document's answer for layer 2: MulDiv. -/
import Derived.Test.YtpmibknabckboaaRef2c
namespace Go.Proofs.Ytpmibknabckboaa.R2
open Go.RowKit P Ex R1

theorem muldiv_c (a b c mode : Int) (w : World) (hc : c ≤ 0) :
    Calls Try.prog 11 #[.int .i64 a, .int .i64 b, .int .i64 c, .int .i64 mode] w fun e w' => e = .returned (.tuple #[.int .i64 0, .bool false]) ∧ w = w' := by
  have e0 : decide (c ≤ 0) = true := by simpa using hc
  clear hc
  go_enter Try.func11, Try.ntmps11
  go_wp2
  go_ret2
  exact ⟨rfl, rfl⟩
theorem muldiv_m (a b c mode : Int) (w : World) (hc : 0 < c) (hm : goodm mode = false) :
    Calls Try.prog 11 #[.int .i64 a, .int .i64 b, .int .i64 c, .int .i64 mode] w fun e w' => e = .returned (.tuple #[.int .i64 0, .bool false]) ∧ w = w' := by
  have e0 : decide (c ≤ 0) = false := by simp; omega
  have hb : mode < 0 ∨ (¬ mode < 0 ∧ 3 < mode) := by unfold goodm at hm; simp at hm; omega
  clear hc hm
  rcases hb with h | ⟨h1, h2⟩
  · have e1 : decide (mode < 0) = true := by simpa using h
    clear h
    go_enter Try.func11, Try.ntmps11
    go_wp2
    go_ret2
    exact ⟨rfl, rfl⟩
  · have e1 : decide (mode < 0) = false := by simpa using h1
    have e2 : decide (3 < mode) = true := by simpa using h2
    clear h1 h2
    go_enter Try.func11, Try.ntmps11
    go_wp2
    go_ret2
    exact ⟨rfl, rfl⟩
set_option maxRecDepth 100000 in
set_option maxHeartbeats 4000000 in
theorem muldiv_good (a b c mode : Int) (w : World) (ha : I64 a) (hb : I64 b) (hc : I64 c) (hc0 : 0 < c) (hm : goodm mode = true) :
    Calls Try.prog 11 #[.int .i64 a, .int .i64 b, .int .i64 c, .int .i64 mode] w fun e w' => e = .returned (.tuple #[.int .i64 (cut64 (rnd (a * b) c mode)), .bool (ok64 (rnd (a * b) c mode))]) ∧ Below w.heap.size w w' := by
  obtain ⟨p, hp⟩ : ∃ p, p = a * b := ⟨_, rfl⟩
  have HP : Hid (p.natAbs < two127) := by show _ < _; rw [hp]; exact prod_lt' ha hb
  rw [← hp]
  obtain ⟨n, hn⟩ : ∃ n, n = flo p c := ⟨_, rfl⟩
  obtain ⟨o, ho⟩ : ∃ o, o = fok p c := ⟨_, rfl⟩
  obtain ⟨z, hz⟩ : ∃ z, z = n * c := ⟨_, rfl⟩
  obtain ⟨y, hy⟩ : ∃ y, y = -z := ⟨_, rfl⟩
  obtain ⟨v, hv⟩ : ∃ v, v = p + y := ⟨_, rfl⟩
  have HI : Hid (I64 n) := by show I64 n; rw [hn]; exact i64_flo p c hc0
  have HZ : Hid (z.natAbs < two127) := by show _ < _; rw [hz]; exact prod_lt' HI.out hc
  have HY : Hid (y.natAbs < two127) := by show _ < _; rw [hy, Int.natAbs_neg]; exact HZ.out
  have e0 : decide (c ≤ 0) = false := by simp; omega
  have e1 : decide (mode < 0) = false := by have := (goodm_iff mode).1 hm; simp; omega
  have e2 : decide (3 < mode) = false := by have := (goodm_iff mode).1 hm; simp; omega
  have HA := hid ha
  have HB' := hid hb
  have HC := hid hc
  have HC0 := hid hc0
  have HM := hid hm
  have EP := hid hp
  have EN := hid hn
  have EO := hid ho
  have EZ := hid hz
  have EY := hid hy
  have EV := hid hv
  clear ha hb hc hc0 hm hp hn ho hz hy hv
  go_enter Try.func11, Try.ntmps11
  go_wp2_with fail
  refine (R1.mul_any a b _ HA.out HB'.out).mono ?_; rintro e w0 ⟨rfl, hb0⟩; rw [← EP.out, W_parts p]
  have B0 : Hid (Below w.heap.size w w0) := hb0
  clear hb0
  go_wp2_with fail
  refine (floor_any p c _ HP.out HC.out HC0.out).mono ?_; rintro e w1 ⟨rfl, hb1⟩; rw [← EN.out, ← EO.out]
  have B1 : Hid (Below w.heap.size w w1) := below_on B0.out (below_via ((Below.refl _ _).alloc (Nat.le_refl _) _) hb1 (by simp))
  have L1 : Lies3 w1 w0.heap.size (.bool (decide (p < 0))) (.int .u64 (hiN p.natAbs)) (.int .u64 (loN p.natAbs)) := Lies3.later hb1 rfl
  clear hb1
  go_upto_region 5 with fail
  generalize w0.heap.size = k0 at *
  have keep : ∀ w', Below w1.heap.size w1 w' → w'.cell? ⟨k0, 0, none⟩ = some (.bool (decide (p < 0))) ∧ w'.cell? ⟨k0, 1, none⟩ = some (.int .u64 (hiN p.natAbs)) ∧ w'.cell? ⟨k0, 2, none⟩ = some (.int .u64 (loN p.natAbs)) ∧ Below w1.heap.size w1 w' :=
    fun w' hb => ⟨(L1.on hb).c0, (L1.on hb).c1, (L1.on hb).c2, hb⟩
  have K := hid keep
  have HL1 := hid L1
  clear keep L1
  go_cut [13] (fun s13 wx => ∃ k : Nat, s13 = .pointer (some ⟨k, 0, none⟩) ∧ Hid (Lies3 wx k (.bool (decide (v < 0))) (.int .u64 (hiN v.natAbs)) (.int .u64 (loN v.natAbs)) ∧ Below w1.heap.size w1 wx))
  case first =>
    go_region_held3 (fun w' => w'.cell? ⟨k0, 0, none⟩ = some (.bool (decide (p < 0))) ∧ w'.cell? ⟨k0, 1, none⟩ = some (.int .u64 (hiN p.natAbs)) ∧ w'.cell? ⟨k0, 2, none⟩ = some (.int .u64 (loN p.natAbs)) ∧ Below w1.heap.size w1 w')
      ((refine K.out _ ?_; repeat (first | assumption | exact Below.refl _ _ | (refine Below.drew ?_) | (refine below_on ?_ ‹_›) | (refine alloc_on ?_ _) | (refine Below.setCell ?_ (by first | omega | (simp <;> omega)) _))))
      (first
      | (go_at_call 15
         refine (R1.mul_any n c _ HI.out HC.out).mono ?_
         rintro e w2 ⟨rfl, hb1⟩
         have s2 : w1.heap.size ≤ w2.heap.size := by have := hb1.size; first | exact this | (simp at this; omega)
         first | have L := Lies3.later_drew (k := w1.heap.size) hb1 rfl | have L := Lies3.later (k := w1.heap.size) hb1 rfl | skip
         rw [← EZ.out, W_parts z])
      | (go_at_call 16
         refine (opposite_any z _).mono ?_
         rintro e w3 ⟨rfl, hb2⟩
         have s3 : w2.heap.size ≤ w3.heap.size := by have := hb2.size; first | exact this | (simp at this; omega)
         first | have L := Lies3.later (k := w2.heap.size) hb2 rfl | (have M := L.on hb2; clear L; have L := M; clear M) | skip
         rw [← EY.out, W_parts y])
      | (go_at_call 14
         refine (R1.add_any p y _ HP.out HY.out).mono ?_
         rintro e w4 ⟨rfl, hb3⟩
         have s4 : w3.heap.size ≤ w4.heap.size := by have := hb3.size; first | exact this | (simp at this; omega)
         first | have L := Lies3.later (k := w3.heap.size) hb3 rfl | (have M := L.on hb3; clear L; have L := M; clear M) | skip
         try obtain ⟨l1, l2, l3, l4, l5, l6, l7⟩ := id L
         rw [← EV.out, W_parts v]))
    all_goals
      go_wp2
      go_meet
      first
        | exact ⟨_, rfl, L.set _ _ _, by repeat (first | assumption | exact Below.refl _ _ | (refine Below.drew ?_) | (refine below_on ?_ ‹_›) | (refine alloc_on ?_ _) | (refine Below.setCell ?_ (by first | omega | (simp <;> omega)) _))⟩
        | exact ⟨_, rfl, Lies3.new rfl, by repeat (first | assumption | exact Below.refl _ _ | (refine Below.drew ?_) | (refine below_on ?_ ‹_›) | (refine alloc_on ?_ _) | (refine Below.setCell ?_ (by first | omega | (simp <;> omega)) _))⟩
  case rest =>
    obtain ⟨k, rfl, HL⟩ := hcut
    obtain ⟨l0, l1, l2, l3, _, _, _⟩ := HL.out.1
    have BB : Hid (Below w.heap.size w wc) := below_on B1.out (below_on HL.out.2 (Below.refl _ _))
    have c0 := HC0.out
    have c1 : c ≤ 9223372036854775807 := by have := HC.out; unfold I64 at this; omega
    have hv : v = p - n * c := by have h1 := EZ.out; have h2 := EY.out; have h3 := EV.out; omega
    have hl := hi_lo v.natAbs
    have hlt := loN_lt v.natAbs
    rcases flo_cases p c c0 with ⟨f1, f2, f3⟩ | ⟨f1, f2, f3, f4⟩ | ⟨f1, f2, f3, f4⟩
    · -- below the least number: the edge
      rw [← EO.out] at f1
      have HE := hid (fun w => edge_any p c mode w HP.out HC.out c0 HM.out f3)
      obtain ⟨m0, m1, m2, m3, _, _, _⟩ := HL1.out.on HL.out.2
      subst f1
      clear f2 f3 hl hlt hv K HL1 HL
      go_wp2_with fail
      refine (HE.out _).mono ?_; rintro e w5 ⟨rfl, hb5⟩
      have B5 : Hid (Below w.heap.size w w5) := below_on BB.out hb5
      clear hb5
      rcases Bool.eq_false_or_eq_true (ok64 (rnd p c mode)) with ok | ok
      · have OK := hid ok
        rw [ok]
        clear ok
        go_wp2
        go_ret2
        exact ⟨ret_2 rfl OK.out.symm, B5.out⟩
      · have OK := hid ok
        have OZ : Hid (cut64 (rnd p c mode) = 0) := by show _ = _; unfold cut64; rw [ok]; rfl
        rw [ok]
        clear ok
        go_wp2
        go_ret2
        exact ⟨ret_2 OZ.out.symm OK.out.symm, B5.out⟩
    · -- beyond the greatest one
      rw [← EO.out] at f1
      subst f1
      rw [← EN.out] at f2
      rw [f2] at hv
      have HX := hid (rnd_past (mode := mode) f3)
      by_cases hh : 0 < hiN v.natAbs
      · clear f2 f3 f4 hl hlt hv K HL1 HL
        go_wp2
        go_ret2
        exact ⟨ret_2 HX.out.1.symm HX.out.2.symm, BB.out⟩
      · have eh : ((hiN v.natAbs : Nat) : Int) = 0 := by omega
        have el : ((loN v.natAbs : Nat) : Int) = v := by omega
        rw [eh] at l2
        rw [el] at l3
        have hcv : c ≤ v := by omega
        clear f2 f3 f4 hl hlt hv hh eh el K HL1 HL
        go_wp2
        go_ret2
        exact ⟨ret_2 HX.out.1.symm HX.out.2.symm, BB.out⟩
    · rw [← EO.out] at f1
      subst f1
      rw [← EN.out] at f2
      have r0 := Int.emod_nonneg p (show c ≠ 0 by omega)
      have r1 := Int.emod_lt_of_pos p c0
      rw [f2] at hv
      rw [f4] at hv
      have eh : ((hiN v.natAbs : Nat) : Int) = 0 := by rw [hiN_small (by omega)]; rfl
      have el : ((loN v.natAbs : Nat) : Int) = p % c := by rw [loN_small (by omega)]; omega
      rw [eh] at l2
      rw [el] at l3
      have F2 := hid f2
      have F3 := hid f3
      have hu := rup_asked (q := p / c) (r := p % c) (c := c) HM.out
      rw [← f2] at hu
      have HR : Hid (rup n (p % c) c mode = rup (p / c) (p % c) c mode) := by show _ = _; rw [← f2]
      generalize hr : p % c = r at *
      have ERR := hid hr
      clear f2 f3 f4 hl hlt hv eh el hr K HL1 HL
      have T := tmod2 n
      rcases hu with ⟨hu, hcase⟩ | ⟨hu, hcase⟩
      · have HX := hid (rnd_same (p := p) (c := c) (mode := mode) (by rw [ERR.out, ← HR.out]; exact hu) F3.out)
        clear hu HR
        rcases hcase with rfl | ⟨rfl, h⟩ | ⟨rfl, h⟩ | ⟨rfl, h⟩ | ⟨rfl, h, h2⟩
        · clear T
          go_wp2
          go_ret2
          exact ⟨ret_2 (F2.out.trans HX.out.1.symm) HX.out.2.symm, BB.out⟩
        · clear T
          have t1 : decide (0 < r) = false := by simpa using h
          clear h
          go_wp2
          go_ret2
          exact ⟨ret_2 (F2.out.trans HX.out.1.symm) HX.out.2.symm, BB.out⟩
        · clear T
          have t1 : decide (c - r ≤ r) = false := by simpa using h
          clear h
          go_wp2
          go_ret2
          exact ⟨ret_2 (F2.out.trans HX.out.1.symm) HX.out.2.symm, BB.out⟩
        · clear T
          have t1 : decide (c - r < r) = false := by simp; omega
          have t2 : (r == c - r) = false := by simp; omega
          clear h
          go_wp2
          go_ret2
          exact ⟨ret_2 (F2.out.trans HX.out.1.symm) HX.out.2.symm, BB.out⟩
        · have t1 : decide (c - r < r) = false := by simp; omega
          have t2 : (r == c - r) = true := by simp; omega
          have t3 : (n.tmod 2 != 0) = false := by rw [T]; simpa using h2
          clear h h2 T
          go_wp2
          go_ret2
          exact ⟨ret_2 (F2.out.trans HX.out.1.symm) HX.out.2.symm, BB.out⟩
      · by_cases hx : n = 9223372036854775807
        · have HX := hid (rnd_last (p := p) (c := c) (mode := mode) (by rw [ERR.out, ← HR.out]; exact hu) (F2.out.symm.trans hx))
          have ex : (n == 9223372036854775807) = true := by simpa using hx
          clear hu HR hx
          rcases hcase with ⟨rfl, h⟩ | ⟨rfl, h⟩ | ⟨rfl, h⟩ | ⟨rfl, h, h2⟩
          · clear T
            have t1 : decide (0 < r) = true := by simpa using h
            clear h
            go_wp2
            go_ret2
            exact ⟨ret_2 HX.out.1.symm HX.out.2.symm, BB.out⟩
          · clear T
            have t1 : decide (c - r ≤ r) = true := by simpa using h
            clear h
            go_wp2
            go_ret2
            exact ⟨ret_2 HX.out.1.symm HX.out.2.symm, BB.out⟩
          · clear T
            have t1 : decide (c - r < r) = true := by simpa using h
            clear h
            go_wp2
            go_ret2
            exact ⟨ret_2 HX.out.1.symm HX.out.2.symm, BB.out⟩
          · have t1 : decide (c - r < r) = false := by simp; omega
            have t2 : (r == c - r) = true := by simp; omega
            have t3 : (n.tmod 2 != 0) = true := by rw [T]; simpa using h2
            clear h h2 T
            go_wp2
            go_ret2
            exact ⟨ret_2 HX.out.1.symm HX.out.2.symm, BB.out⟩
        · have HX := hid (rnd_more (p := p) (c := c) (mode := mode) (by rw [ERR.out, ← HR.out]; exact hu) F3.out (by rw [← F2.out]; exact hx))
          have ex : (n == 9223372036854775807) = false := by simpa using hx
          have n0 : -9223372036854775808 ≤ n := HI.out.1
          have n1 : n + 1 ≤ 9223372036854775807 := by have := HI.out.2; omega
          have F2' : Hid (n + 1 = p / c + 1) := by show _ = _; rw [F2.out]
          clear hu HR hx
          rcases hcase with ⟨rfl, h⟩ | ⟨rfl, h⟩ | ⟨rfl, h⟩ | ⟨rfl, h, h2⟩
          · clear T
            have t1 : decide (0 < r) = true := by simpa using h
            clear h
            go_wp2
            go_ret2
            exact ⟨ret_2 (F2'.out.trans HX.out.1.symm) HX.out.2.symm, BB.out⟩
          · clear T
            have t1 : decide (c - r ≤ r) = true := by simpa using h
            clear h
            go_wp2
            go_ret2
            exact ⟨ret_2 (F2'.out.trans HX.out.1.symm) HX.out.2.symm, BB.out⟩
          · clear T
            have t1 : decide (c - r < r) = true := by simpa using h
            clear h
            go_wp2
            go_ret2
            exact ⟨ret_2 (F2'.out.trans HX.out.1.symm) HX.out.2.symm, BB.out⟩
          · have t1 : decide (c - r < r) = false := by simp; omega
            have t2 : (r == c - r) = true := by simp; omega
            have t3 : (n.tmod 2 != 0) = true := by rw [T]; simpa using h2
            clear h h2 T
            go_wp2
            go_ret2
            exact ⟨ret_2 (F2'.out.trans HX.out.1.symm) HX.out.2.symm, BB.out⟩
theorem muldiv_any (a b c mode : Int) (w : World) (ha : I64 a) (hb : I64 b) (hc : I64 c) :
    Calls Try.prog 11 #[.int .i64 a, .int .i64 b, .int .i64 c, .int .i64 mode] w fun e w' => e = .returned (.tuple #[.int .i64 (mdn (a * b) c mode), .bool (mdb (a * b) c mode)]) ∧ Below w.heap.size w w' := by
  by_cases hc0 : 0 < c
  · by_cases hm : goodm mode = true
    · rw [mdn_good hc0 hm, mdb_good hc0 hm]
      exact muldiv_good a b c mode w ha hb hc hc0 hm
    · have hm' : goodm mode = false := by simpa using hm
      rw [mdn_m hm', mdb_m hm']
      refine (muldiv_m a b c mode w hc0 hm').mono ?_
      rintro e w' ⟨rfl, rfl⟩
      exact ⟨rfl, Below.refl _ _⟩
  · rw [mdn_c (by omega), mdb_c (by omega)]
    refine (muldiv_c a b c mode w (by omega)).mono ?_
    rintro e w' ⟨rfl, rfl⟩
    exact ⟨rfl, Below.refl _ _⟩
end Go.Proofs.Ytpmibknabckboaa.R2
