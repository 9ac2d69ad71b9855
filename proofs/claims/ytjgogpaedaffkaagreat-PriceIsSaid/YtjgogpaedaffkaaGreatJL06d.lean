/- The document's answer for layer 2: the greatest number that, times c, isn't above a wide one. -/
import Derived.Test.YtjgogpaedaffkaaGreatJRef2
import Derived.Test.YtjgogpaedaffkaaGreatJPureS
import Derived.StillTail
import Derived.Lib.QuietBelow
import Derived.Deep.RegionHeldLaw
import Derived.Deep.RegionHeld3
import Derived.BigQuiet
import Derived.WalkKit
import Derived.ProofKit
import Derived.Test.YtjgogpaedaffkaaGreatJLexJ
import Derived.Laws.Cover1
namespace Go.Proofs.YtjgogpaedaffkaaGreat.P
end Go.Proofs.YtjgogpaedaffkaaGreat.P
namespace Go.Proofs.YtjgogpaedaffkaaGreat.Ex
end Go.Proofs.YtjgogpaedaffkaaGreat.Ex
namespace Go.Proofs.YtjgogpaedaffkaaGreat.R1
end Go.Proofs.YtjgogpaedaffkaaGreat.R1
namespace Go.Proofs.YtjgogpaedaffkaaGreat.Mm
end Go.Proofs.YtjgogpaedaffkaaGreat.Mm
namespace Go.Proofs.YtjgogpaedaffkaaGreat.Tl
end Go.Proofs.YtjgogpaedaffkaaGreat.Tl
namespace Go.Proofs.YtjgogpaedaffkaaGreat.R6
end Go.Proofs.YtjgogpaedaffkaaGreat.R6
namespace Go.Proofs.YtjgogpaedaffkaaGreat.R2
open Go.RowKit P Ex R1
/-- What the search knows: l is not too great; l and 2^j is, or is beyond 64 bits. -/
structure Seek (p c l : Int) (j : Nat) : Prop where
  lo : -9223372036854775808 ≤ l
  hi : l + 2 ^ j ≤ 9223372036854775808
  at' : l * c ≤ p
  top : l + 2 ^ j = 9223372036854775808 ∨ p < (l + 2 ^ j) * c
  j64 : j ≤ 64
theorem Seek.start {p c : Int} (h : -9223372036854775808 * c ≤ p) : Seek p c (-9223372036854775808) 64 := ⟨by omega, by decide, h, Or.inl (by decide), by omega⟩
theorem two_pow_succ (i : Nat) : (2 : Int) ^ (i + 1) = 2 ^ i + 2 ^ i := by rw [Int.pow_succ]; omega
theorem Seek.up {p c l : Int} {i : Nat} (s : Seek p c l (i + 1)) (h : (l + 2 ^ i) * c ≤ p) : Seek p c (l + 2 ^ i) i := by
  have h2 := two_pow_succ i
  have hp : (0 : Int) < 2 ^ i := Int.pow_pos (by omega)
  have a := s.lo; have b := s.hi; have t := s.top; have j := s.j64
  have e : l + 2 ^ i + 2 ^ i = l + 2 ^ (i + 1) := by omega
  exact ⟨by omega, by omega, h, by rw [e]; exact t, by omega⟩
theorem Seek.stay {p c l : Int} {i : Nat} (s : Seek p c l (i + 1)) (h : ¬ (l + 2 ^ i) * c ≤ p) : Seek p c l i := by
  have h2 := two_pow_succ i
  have hp : (0 : Int) < 2 ^ i := Int.pow_pos (by omega)
  have a := s.lo; have b := s.hi; have t := s.at'; have j := s.j64
  exact ⟨a, by omega, t, Or.inr (by omega), by omega⟩
theorem Seek.next {p c l : Int} {i : Nat} (s : Seek p c l (i + 1)) : I64 (l + 2 ^ i) ∧ l < l + 2 ^ i := by
  have h2 := two_pow_succ i
  have hp : (0 : Int) < 2 ^ i := Int.pow_pos (by omega)
  have a := s.lo; have b := s.hi
  exact ⟨by unfold I64; omega, by omega⟩
theorem Seek.i64 {p c l : Int} {i : Nat} (s : Seek p c l i) : I64 l := by
  have hp : (0 : Int) < 2 ^ i := Int.pow_pos (by omega)
  have a := s.lo; have b := s.hi
  unfold I64; omega
theorem step_wrap {p c l : Int} {i : Nat} (s : Seek p c l (i + 1)) : wrap64 (IntKind.u64.wrap (IntKind.u64.wrap l + IntKind.u64.wrap (2 ^ i))) = l + 2 ^ i := by
  have h := s.next.1
  generalize (2 : Int) ^ i = q at *
  rw [u64_mod, u64_mod, u64_mod]
  unfold I64 at h
  unfold wrap64
  omega
theorem Seek.done {p c l : Int} (hc : 0 < c) (h : -9223372036854775808 * c ≤ p) (s : Seek p c l 0) : flo p c = l ∧ fok p c = true := by
  have b := s.hi
  have t := s.top
  exact flo_end hc h (by simp at b; omega) s.at' (by simpa using t)
set_option maxHeartbeats 1000000 in
theorem floor_any (p c : Int) (w : World) (hp : p.natAbs < two127) (hc : I64 c) (hc0 : 0 < c) :
    Calls Tryz.prog 85 #[W p, .int .i64 c] w fun e w' => e = .returned (.tuple #[.int .i64 (flo p c), .bool (fok p c)]) ∧ Below w.heap.size w w' := by
  have HP := hid hp
  have HC := hid hc
  have HC0 := hid hc0
  clear hp hc hc0
  rw [W_parts p]
  go_enter Tryz.func85, Tryz.ntmps85
  go_wp2_with fail
  refine (under_any _ c p _ (by unfold I64; omega) HC.out HP.out).mono ?_; rintro e w2 ⟨rfl, hb⟩
  have B1 : Hid (Below w.heap.size w w2) := below_via ((Below.refl _ _).alloc (Nat.le_refl _) _) hb (by simp)
  have L2 : Lies3 w2 w.heap.size (.bool (decide (p < 0))) (.int .u64 (hiN p.natAbs)) (.int .u64 (loN p.natAbs)) := Lies3.later hb rfl
  clear hb
  by_cases h : -9223372036854775808 * c ≤ p
  · rw [decide_eq_true h]
    have H := hid h
    have LL := hid L2
    obtain ⟨m1, m2, m3, m4, _, _, _⟩ := L2
    clear h
    go_wp2_with fail
    go_loopw [6, 7] (fun lo kk wr => ∃ l k : Int, ∃ j : Nat, lo = .int .i64 l ∧ kk = .int .i64 k ∧ k + 1 = j ∧ Hid (Seek p c l j ∧ Below w2.heap.size w2 wr)) (fun _ kk _ => (intOf kk + 1).toNat)
    case atStart => exact ⟨_, _, 64, rfl, rfl, by decide, Seek.start H.out, Below.refl _ _⟩
    case round =>
      obtain ⟨l, k, j, rfl, rfl, hk, HR⟩ := hrel
      rename World => wr
      have HS : Hid (Seek p c l j) := HR.out.1
      have HB : Hid (Below w2.heap.size w2 wr) := HR.out.2
      clear HR m2 m3 m4
      obtain ⟨n1, n2, n3, n4, _, _, _⟩ := LL.out.on HB.out
      cases j with
      | zero =>
        obtain rfl : k = -1 := by omega
        go_wp2
        go_ret2
        have hd := HS.out.done HC0.out H.out
        exact ⟨ret_2 hd.1.symm hd.2.symm, below_via B1.out HB.out (Below.size B1.out)⟩
      | succ i =>
        obtain rfl : k = (i : Int) := by omega
        have hi : i ≤ 63 := by have := HS.out.j64; omega
        have hnx := HS.out.next
        have en := step_wrap HS.out
        have ht : decide (l < wrap64 (IntKind.u64.wrap (IntKind.u64.wrap l + IntKind.u64.wrap (2 ^ i)))) = true := by rw [en]; simpa using hnx.2
        have HI := hid hnx.1
        have EN := hid en
        clear hnx en
        go_wp2_with fail
        rw [EN.out]
        refine (under_any _ c p _ HI.out HC.out HP.out).mono ?_; rintro e w4 ⟨rfl, hb⟩
        have B4 : Hid (Below w2.heap.size w2 w4) := below_via HB.out hb (Below.size HB.out)
        clear hb
        by_cases hu : (l + 2 ^ i) * c ≤ p
        · rw [decide_eq_true hu]
          have HN := hid (HS.out.up hu)
          clear hu
          go_wp2
          go_roundw
          case rel => exact ⟨l + 2 ^ i, (i : Int) - 1, i, rfl, rfl, by omega, HN.out, B4.out⟩
          case measure => simp [intOf]
        · rw [decide_eq_false hu]
          have HN := hid (HS.out.stay hu)
          clear hu
          go_wp2
          go_roundw
          case rel => exact ⟨l, (i : Int) - 1, i, rfl, rfl, by omega, HN.out, B4.out⟩
          case measure => simp [intOf]
  · rw [decide_eq_false h]
    have hd := flo_no h
    have H := hid hd
    clear h hd
    go_wp2
    go_ret2
    exact ⟨ret_2 H.out.1.symm H.out.2.symm, B1.out⟩
end Go.Proofs.YtjgogpaedaffkaaGreat.R2
/- The document's answer for layer 2: products divided and rounded. -/
namespace Go.Proofs.YtjgogpaedaffkaaGreat.R2
open Go.RowKit P Ex R1
set_option maxHeartbeats 1000000 in
theorem edge_any (p c mode : Int) (w : World) (hp : p.natAbs < two127) (hc : I64 c) (hc0 : 0 < c) (hm : goodm mode = true) (hl : p < -9223372036854775808 * c) :
    Calls Tryz.prog 87 #[W p, .int .i64 c, .int .i64 mode] w fun e w' => e = .returned (.tuple #[.int .i64 (cut64 (rnd p c mode)), .bool (ok64 (rnd p c mode))]) ∧ Below w.heap.size w w' := by
  obtain ⟨y, hy⟩ : ∃ y, y = -9223372036854775808 * c := ⟨_, rfl⟩
  obtain ⟨n, hn⟩ : ∃ n, n = -p := ⟨_, rfl⟩
  obtain ⟨d, hd⟩ : ∃ d, d = y + n := ⟨_, rfl⟩
  have HY : Hid (y.natAbs < two127) := by show _ < _; rw [hy]; exact prod_lt' (by unfold I64; omega) hc
  have HN : Hid (n.natAbs < two127) := by show _ < _; rw [hn, Int.natAbs_neg]; exact hp
  have EY := hid hy
  have EN := hid hn
  have ED := hid hd
  have HD : Hid (0 < d) := by show _ < _; omega
  have HP := hid hp
  have HC := hid hc
  have HC0 := hid hc0
  have HM := hid hm
  clear hp hc hc0 hm hl hy hn hd
  rw [W_parts p]
  go_enter Tryz.func87, Tryz.ntmps87
  go_upto_region 2 with fail
  obtain ⟨w1, hw, hsz, hB, L1⟩ := boxed1 w (.bool (decide (p < 0))) (.int .u64 (hiN p.natAbs)) (.int .u64 (loN p.natAbs)) 120
  rw [hw]
  have HB := hid hB
  have keep : ∀ w', Below w1.heap.size w1 w' → w'.cell? ⟨w.heap.size, 0, none⟩ = some (.bool (decide (p < 0))) ∧ w'.cell? ⟨w.heap.size, 1, none⟩ = some (.int .u64 (hiN p.natAbs)) ∧ w'.cell? ⟨w.heap.size, 2, none⟩ = some (.int .u64 (loN p.natAbs)) ∧ Below w1.heap.size w1 w' :=
    fun w' hb => ⟨(L1.on hb).c0, (L1.on hb).c1, (L1.on hb).c2, hb⟩
  have K := hid keep
  have HSZ := hid hsz
  clear keep hw hB hsz L1
  go_cut [9] (fun s9 wx => ∃ k : Nat, s9 = .pointer (some ⟨k, 0, none⟩) ∧ Hid (Lies3 wx k (.bool (decide (d < 0))) (.int .u64 (hiN d.natAbs)) (.int .u64 (loN d.natAbs)) ∧ Below w1.heap.size w1 wx))
  case first =>
    go_region_held3 (fun w' => w'.cell? ⟨w.heap.size, 0, none⟩ = some (.bool (decide (p < 0))) ∧ w'.cell? ⟨w.heap.size, 1, none⟩ = some (.int .u64 (hiN p.natAbs)) ∧ w'.cell? ⟨w.heap.size, 2, none⟩ = some (.int .u64 (loN p.natAbs)) ∧ Below w1.heap.size w1 w')
      ((refine K.out _ ?_; repeat (first | assumption | exact Below.refl _ _ | (refine Below.drew ?_) | (refine below_on ?_ ‹_›) | (refine alloc_on ?_ _) | (refine Below.setCell ?_ (by first | omega | (simp <;> omega)) _))))
      (first
      | (go_at_call 84
         refine (R1.mul_any (-9223372036854775808) c _ (by unfold I64; omega) HC.out).mono ?_
         rintro e w2 ⟨rfl, hb1⟩
         have s2 : w1.heap.size ≤ w2.heap.size := by have := hb1.size; first | exact this | (simp at this; omega)
         first | have L := Lies3.later_drew (k := w1.heap.size) hb1 rfl | have L := Lies3.later (k := w1.heap.size) hb1 rfl | skip
         rw [← EY.out, W_parts y])
      | (go_at_call 86
         refine (opposite_any p _).mono ?_
         rintro e w3 ⟨rfl, hb2⟩
         have s3 : w2.heap.size ≤ w3.heap.size := by have := hb2.size; first | exact this | (simp at this; omega)
         first | have L := Lies3.later (k := w2.heap.size) hb2 rfl | (have M := L.on hb2; clear L; have L := M; clear M) | skip
         rw [← EN.out, W_parts n])
      | (go_at_call 59
         refine (R1.add_any y n _ HY.out HN.out).mono ?_
         rintro e w4 ⟨rfl, hb3⟩
         have s4 : w3.heap.size ≤ w4.heap.size := by have := hb3.size; first | exact this | (simp at this; omega)
         first | have L := Lies3.later (k := w3.heap.size) hb3 rfl | (have M := L.on hb3; clear L; have L := M; clear M) | skip
         try obtain ⟨l1, l2, l3, l4, l5, l6, l7⟩ := id L
         rw [← ED.out, W_parts d]))
    all_goals
      go_wp2
      go_meet
      first
        | exact ⟨_, rfl, L.set _ _ _, by repeat (first | assumption | exact Below.refl _ _ | (refine Below.drew ?_) | (refine below_on ?_ ‹_›) | (refine alloc_on ?_ _) | (refine Below.setCell ?_ (by first | omega | (simp <;> omega)) _))⟩
        | exact ⟨_, rfl, Lies3.new rfl, by repeat (first | assumption | exact Below.refl _ _ | (refine Below.drew ?_) | (refine below_on ?_ ‹_›) | (refine alloc_on ?_ _) | (refine Below.setCell ?_ (by first | omega | (simp <;> omega)) _))⟩
  case rest =>
    obtain ⟨k, rfl, HL⟩ := hcut
    obtain ⟨l0, l1, l2, l3, _, _, _⟩ := HL.out.1
    have BB : Hid (Below w.heap.size w wc) := below_on HB.out (below_on HL.out.2 (Below.refl _ _))
    have d0 := HD.out
    have hp : p = -9223372036854775808 * c - d := by have h1 := EY.out; have h2 := EN.out; have h3 := ED.out; omega
    have hmode : mode = 0 ∨ mode = 1 ∨ mode = 2 ∨ mode = 3 := by have := (goodm_iff mode).1 HM.out; omega
    have c0 := HC0.out
    have c1 : c ≤ 9223372036854775807 := by have := HC.out; unfold I64 at this; omega
    have hl := hi_lo d.natAbs
    have hlt := loN_lt d.natAbs
    rw [decide_eq_false (show ¬ d < 0 by omega)] at l1
    clear K HSZ HY HN EY EN ED HL
    by_cases hh : 0 < hiN d.natAbs
    · have HX := hid (edge_far (mode := mode) c0 (show c ≤ d by omega) hp)
      clear hp hmode hl hlt
      go_wp2
      go_ret2
      exact ⟨ret_2 (cut64_f HX.out).symm (ok64_f HX.out).symm, BB.out⟩
    · have eh : ((hiN d.natAbs : Nat) : Int) = 0 := by omega
      have el : ((loN d.natAbs : Nat) : Int) = d := by omega
      rw [eh] at l2
      rw [el] at l3
      clear hl hlt hh eh el
      by_cases hf : c ≤ d
      · have HX := hid (edge_far (mode := mode) c0 hf hp)
        clear hp hmode
        go_wp2
        go_ret2
        exact ⟨ret_2 (cut64_f HX.out).symm (ok64_f HX.out).symm, BB.out⟩
      · have hlt : d < c := by omega
        by_cases hy : mode = 1 ∨ ((mode = 2 ∨ mode = 3) ∧ d ≤ c - d)
        · have HX := hid (edge_yes d0 hlt hp hy)
          clear hp hmode
          rcases hy with rfl | ⟨rfl | rfl, hy⟩
          · go_wp2
            go_ret2
            exact ⟨ret_2 HX.out.1.symm HX.out.2.symm, BB.out⟩
          all_goals
            by_cases hz : d < c - d
            · go_wp2
              go_ret2
              exact ⟨ret_2 HX.out.1.symm HX.out.2.symm, BB.out⟩
            · have hz2 : (d == c - d) = true := by simp; omega
              have hz3 : decide (d < c - d) = false := by simp; omega
              clear hz hy
              go_wp2
              go_ret2
              exact ⟨ret_2 HX.out.1.symm HX.out.2.symm, BB.out⟩
        · have HX := hid (edge_no d0 hlt hp (show mode = 0 ∨ ((mode = 2 ∨ mode = 3) ∧ ¬ d ≤ c - d) by omega))
          clear hp
          rcases hmode with rfl | rfl | rfl | rfl
          · clear hy
            go_wp2
            go_ret2
            exact ⟨ret_2 HX.out.1.symm HX.out.2.symm, BB.out⟩
          · exact absurd (Or.inl rfl) hy
          all_goals
            have hz2 : (d == c - d) = false := by simp; omega
            have hz3 : decide (d < c - d) = false := by simp; omega
            clear hy
            go_wp2
            go_ret2
            exact ⟨ret_2 HX.out.1.symm HX.out.2.symm, BB.out⟩
end Go.Proofs.YtjgogpaedaffkaaGreat.R2
/- The document's answer for layer 2: MulDiv. -/
namespace Go.Proofs.YtjgogpaedaffkaaGreat.R2
open Go.RowKit P Ex R1
theorem muldiv_c (a b c mode : Int) (w : World) (hc : c ≤ 0) :
    Calls Tryz.prog 57 #[.int .i64 a, .int .i64 b, .int .i64 c, .int .i64 mode] w fun e w' => e = .returned (.tuple #[.int .i64 0, .bool false]) ∧ w = w' := by
  have e0 : decide (c ≤ 0) = true := by simpa using hc
  clear hc
  go_enter Tryz.func57, Tryz.ntmps57
  go_wp2
  go_ret2
  exact ⟨rfl, rfl⟩
theorem muldiv_m (a b c mode : Int) (w : World) (hc : 0 < c) (hm : goodm mode = false) :
    Calls Tryz.prog 57 #[.int .i64 a, .int .i64 b, .int .i64 c, .int .i64 mode] w fun e w' => e = .returned (.tuple #[.int .i64 0, .bool false]) ∧ w = w' := by
  have e0 : decide (c ≤ 0) = false := by simp; omega
  have hb : mode < 0 ∨ (¬ mode < 0 ∧ 3 < mode) := by unfold goodm at hm; simp at hm; omega
  clear hc hm
  rcases hb with h | ⟨h1, h2⟩
  · have e1 : decide (mode < 0) = true := by simpa using h
    clear h
    go_enter Tryz.func57, Tryz.ntmps57
    go_wp2
    go_ret2
    exact ⟨rfl, rfl⟩
  · have e1 : decide (mode < 0) = false := by simpa using h1
    have e2 : decide (3 < mode) = true := by simpa using h2
    clear h1 h2
    go_enter Tryz.func57, Tryz.ntmps57
    go_wp2
    go_ret2
    exact ⟨rfl, rfl⟩
set_option maxRecDepth 100000 in
set_option maxHeartbeats 4000000 in
theorem muldiv_good (a b c mode : Int) (w : World) (ha : I64 a) (hb : I64 b) (hc : I64 c) (hc0 : 0 < c) (hm : goodm mode = true) :
    Calls Tryz.prog 57 #[.int .i64 a, .int .i64 b, .int .i64 c, .int .i64 mode] w fun e w' => e = .returned (.tuple #[.int .i64 (cut64 (rnd (a * b) c mode)), .bool (ok64 (rnd (a * b) c mode))]) ∧ Below w.heap.size w w' := by
  obtain ⟨p, hp⟩ : ∃ p, p = a * b := ⟨_, rfl⟩
  have HP : Hid (p.natAbs < two127) := by show _ < _; rw [hp]; exact prod_lt' ha hb
  rw [← hp]
  obtain ⟨n, hn⟩ : ∃ n, n = flo p c := ⟨_, rfl⟩
  obtain ⟨o, ho⟩ : ∃ o, o = fok p c := ⟨_, rfl⟩
  obtain ⟨z, hz⟩ : ∃ z, z = n * c := ⟨_, rfl⟩
  obtain ⟨y, hy⟩ : ∃ y, y = -z := ⟨_, rfl⟩
  obtain ⟨v, hv⟩ : ∃ v, v = p + y := ⟨_, rfl⟩
  have HI : Hid (I64 n) := by show I64 n; rw [hn]; exact i64_flo p c hc0
  have HZ : Hid (z.natAbs < two127) := by show _ < _; rw [hz]; exact prod_lt' HI.out hc
  have HY : Hid (y.natAbs < two127) := by show _ < _; rw [hy, Int.natAbs_neg]; exact HZ.out
  have e0 : decide (c ≤ 0) = false := by simp; omega
  have e1 : decide (mode < 0) = false := by have := (goodm_iff mode).1 hm; simp; omega
  have e2 : decide (3 < mode) = false := by have := (goodm_iff mode).1 hm; simp; omega
  have HA := hid ha
  have HB' := hid hb
  have HC := hid hc
  have HC0 := hid hc0
  have HM := hid hm
  have EP := hid hp
  have EN := hid hn
  have EO := hid ho
  have EZ := hid hz
  have EY := hid hy
  have EV := hid hv
  clear ha hb hc hc0 hm hp hn ho hz hy hv
  go_enter Tryz.func57, Tryz.ntmps57
  go_wp2_with fail
  refine (R1.mul_any a b _ HA.out HB'.out).mono ?_; rintro e w0 ⟨rfl, hb0⟩; rw [← EP.out, W_parts p]
  have B0 : Hid (Below w.heap.size w w0) := hb0
  clear hb0
  go_wp2_with fail
  refine (floor_any p c _ HP.out HC.out HC0.out).mono ?_; rintro e w1 ⟨rfl, hb1⟩; rw [← EN.out, ← EO.out]
  have B1 : Hid (Below w.heap.size w w1) := below_on B0.out (below_via ((Below.refl _ _).alloc (Nat.le_refl _) _) hb1 (by simp))
  have L1 : Lies3 w1 w0.heap.size (.bool (decide (p < 0))) (.int .u64 (hiN p.natAbs)) (.int .u64 (loN p.natAbs)) := Lies3.later hb1 rfl
  clear hb1
  go_upto_region 5 with fail
  generalize w0.heap.size = k0 at *
  have keep : ∀ w', Below w1.heap.size w1 w' → w'.cell? ⟨k0, 0, none⟩ = some (.bool (decide (p < 0))) ∧ w'.cell? ⟨k0, 1, none⟩ = some (.int .u64 (hiN p.natAbs)) ∧ w'.cell? ⟨k0, 2, none⟩ = some (.int .u64 (loN p.natAbs)) ∧ Below w1.heap.size w1 w' :=
    fun w' hb => ⟨(L1.on hb).c0, (L1.on hb).c1, (L1.on hb).c2, hb⟩
  have K := hid keep
  have HL1 := hid L1
  clear keep L1
  go_cut [13] (fun s13 wx => ∃ k : Nat, s13 = .pointer (some ⟨k, 0, none⟩) ∧ Hid (Lies3 wx k (.bool (decide (v < 0))) (.int .u64 (hiN v.natAbs)) (.int .u64 (loN v.natAbs)) ∧ Below w1.heap.size w1 wx))
  case first =>
    go_region_held3 (fun w' => w'.cell? ⟨k0, 0, none⟩ = some (.bool (decide (p < 0))) ∧ w'.cell? ⟨k0, 1, none⟩ = some (.int .u64 (hiN p.natAbs)) ∧ w'.cell? ⟨k0, 2, none⟩ = some (.int .u64 (loN p.natAbs)) ∧ Below w1.heap.size w1 w')
      ((refine K.out _ ?_; repeat (first | assumption | exact Below.refl _ _ | (refine Below.drew ?_) | (refine below_on ?_ ‹_›) | (refine alloc_on ?_ _) | (refine Below.setCell ?_ (by first | omega | (simp <;> omega)) _))))
      (first
      | (go_at_call 84
         refine (R1.mul_any n c _ HI.out HC.out).mono ?_
         rintro e w2 ⟨rfl, hb1⟩
         have s2 : w1.heap.size ≤ w2.heap.size := by have := hb1.size; first | exact this | (simp at this; omega)
         first | have L := Lies3.later_drew (k := w1.heap.size) hb1 rfl | have L := Lies3.later (k := w1.heap.size) hb1 rfl | skip
         rw [← EZ.out, W_parts z])
      | (go_at_call 86
         refine (opposite_any z _).mono ?_
         rintro e w3 ⟨rfl, hb2⟩
         have s3 : w2.heap.size ≤ w3.heap.size := by have := hb2.size; first | exact this | (simp at this; omega)
         first | have L := Lies3.later (k := w2.heap.size) hb2 rfl | (have M := L.on hb2; clear L; have L := M; clear M) | skip
         rw [← EY.out, W_parts y])
      | (go_at_call 59
         refine (R1.add_any p y _ HP.out HY.out).mono ?_
         rintro e w4 ⟨rfl, hb3⟩
         have s4 : w3.heap.size ≤ w4.heap.size := by have := hb3.size; first | exact this | (simp at this; omega)
         first | have L := Lies3.later (k := w3.heap.size) hb3 rfl | (have M := L.on hb3; clear L; have L := M; clear M) | skip
         try obtain ⟨l1, l2, l3, l4, l5, l6, l7⟩ := id L
         rw [← EV.out, W_parts v]))
    all_goals
      go_wp2
      go_meet
      first
        | exact ⟨_, rfl, L.set _ _ _, by repeat (first | assumption | exact Below.refl _ _ | (refine Below.drew ?_) | (refine below_on ?_ ‹_›) | (refine alloc_on ?_ _) | (refine Below.setCell ?_ (by first | omega | (simp <;> omega)) _))⟩
        | exact ⟨_, rfl, Lies3.new rfl, by repeat (first | assumption | exact Below.refl _ _ | (refine Below.drew ?_) | (refine below_on ?_ ‹_›) | (refine alloc_on ?_ _) | (refine Below.setCell ?_ (by first | omega | (simp <;> omega)) _))⟩
  case rest =>
    obtain ⟨k, rfl, HL⟩ := hcut
    obtain ⟨l0, l1, l2, l3, _, _, _⟩ := HL.out.1
    have BB : Hid (Below w.heap.size w wc) := below_on B1.out (below_on HL.out.2 (Below.refl _ _))
    have c0 := HC0.out
    have c1 : c ≤ 9223372036854775807 := by have := HC.out; unfold I64 at this; omega
    have hv : v = p - n * c := by have h1 := EZ.out; have h2 := EY.out; have h3 := EV.out; omega
    have hl := hi_lo v.natAbs
    have hlt := loN_lt v.natAbs
    rcases flo_cases p c c0 with ⟨f1, f2, f3⟩ | ⟨f1, f2, f3, f4⟩ | ⟨f1, f2, f3, f4⟩
    · -- below the least number: the edge
      rw [← EO.out] at f1
      have HE := hid (fun w => edge_any p c mode w HP.out HC.out c0 HM.out f3)
      obtain ⟨m0, m1, m2, m3, _, _, _⟩ := HL1.out.on HL.out.2
      subst f1
      clear f2 f3 hl hlt hv K HL1 HL
      go_wp2_with fail
      refine (HE.out _).mono ?_; rintro e w5 ⟨rfl, hb5⟩
      have B5 : Hid (Below w.heap.size w w5) := below_on BB.out hb5
      clear hb5
      rcases Bool.eq_false_or_eq_true (ok64 (rnd p c mode)) with ok | ok
      · have OK := hid ok
        rw [ok]
        clear ok
        go_wp2
        go_ret2
        exact ⟨ret_2 rfl OK.out.symm, B5.out⟩
      · have OK := hid ok
        have OZ : Hid (cut64 (rnd p c mode) = 0) := by show _ = _; unfold cut64; rw [ok]; rfl
        rw [ok]
        clear ok
        go_wp2
        go_ret2
        exact ⟨ret_2 OZ.out.symm OK.out.symm, B5.out⟩
    · -- beyond the greatest one
      rw [← EO.out] at f1
      subst f1
      rw [← EN.out] at f2
      rw [f2] at hv
      have HX := hid (rnd_past (mode := mode) f3)
      by_cases hh : 0 < hiN v.natAbs
      · clear f2 f3 f4 hl hlt hv K HL1 HL
        go_wp2
        go_ret2
        exact ⟨ret_2 HX.out.1.symm HX.out.2.symm, BB.out⟩
      · have eh : ((hiN v.natAbs : Nat) : Int) = 0 := by omega
        have el : ((loN v.natAbs : Nat) : Int) = v := by omega
        rw [eh] at l2
        rw [el] at l3
        have hcv : c ≤ v := by omega
        clear f2 f3 f4 hl hlt hv hh eh el K HL1 HL
        go_wp2
        go_ret2
        exact ⟨ret_2 HX.out.1.symm HX.out.2.symm, BB.out⟩
    · rw [← EO.out] at f1
      subst f1
      rw [← EN.out] at f2
      have r0 := Int.emod_nonneg p (show c ≠ 0 by omega)
      have r1 := Int.emod_lt_of_pos p c0
      rw [f2] at hv
      rw [f4] at hv
      have eh : ((hiN v.natAbs : Nat) : Int) = 0 := by rw [hiN_small (by omega)]; rfl
      have el : ((loN v.natAbs : Nat) : Int) = p % c := by rw [loN_small (by omega)]; omega
      rw [eh] at l2
      rw [el] at l3
      have F2 := hid f2
      have F3 := hid f3
      have hu := rup_asked (q := p / c) (r := p % c) (c := c) HM.out
      rw [← f2] at hu
      have HR : Hid (rup n (p % c) c mode = rup (p / c) (p % c) c mode) := by show _ = _; rw [← f2]
      generalize hr : p % c = r at *
      have ERR := hid hr
      clear f2 f3 f4 hl hlt hv eh el hr K HL1 HL
      have T := tmod2 n
      rcases hu with ⟨hu, hcase⟩ | ⟨hu, hcase⟩
      · have HX := hid (rnd_same (p := p) (c := c) (mode := mode) (by rw [ERR.out, ← HR.out]; exact hu) F3.out)
        clear hu HR
        rcases hcase with rfl | ⟨rfl, h⟩ | ⟨rfl, h⟩ | ⟨rfl, h⟩ | ⟨rfl, h, h2⟩
        · clear T
          go_wp2
          go_ret2
          exact ⟨ret_2 (F2.out.trans HX.out.1.symm) HX.out.2.symm, BB.out⟩
        · clear T
          have t1 : decide (0 < r) = false := by simpa using h
          clear h
          go_wp2
          go_ret2
          exact ⟨ret_2 (F2.out.trans HX.out.1.symm) HX.out.2.symm, BB.out⟩
        · clear T
          have t1 : decide (c - r ≤ r) = false := by simpa using h
          clear h
          go_wp2
          go_ret2
          exact ⟨ret_2 (F2.out.trans HX.out.1.symm) HX.out.2.symm, BB.out⟩
        · clear T
          have t1 : decide (c - r < r) = false := by simp; omega
          have t2 : (r == c - r) = false := by simp; omega
          clear h
          go_wp2
          go_ret2
          exact ⟨ret_2 (F2.out.trans HX.out.1.symm) HX.out.2.symm, BB.out⟩
        · have t1 : decide (c - r < r) = false := by simp; omega
          have t2 : (r == c - r) = true := by simp; omega
          have t3 : (n.tmod 2 != 0) = false := by rw [T]; simpa using h2
          clear h h2 T
          go_wp2
          go_ret2
          exact ⟨ret_2 (F2.out.trans HX.out.1.symm) HX.out.2.symm, BB.out⟩
      · by_cases hx : n = 9223372036854775807
        · have HX := hid (rnd_last (p := p) (c := c) (mode := mode) (by rw [ERR.out, ← HR.out]; exact hu) (F2.out.symm.trans hx))
          have ex : (n == 9223372036854775807) = true := by simpa using hx
          clear hu HR hx
          rcases hcase with ⟨rfl, h⟩ | ⟨rfl, h⟩ | ⟨rfl, h⟩ | ⟨rfl, h, h2⟩
          · clear T
            have t1 : decide (0 < r) = true := by simpa using h
            clear h
            go_wp2
            go_ret2
            exact ⟨ret_2 HX.out.1.symm HX.out.2.symm, BB.out⟩
          · clear T
            have t1 : decide (c - r ≤ r) = true := by simpa using h
            clear h
            go_wp2
            go_ret2
            exact ⟨ret_2 HX.out.1.symm HX.out.2.symm, BB.out⟩
          · clear T
            have t1 : decide (c - r < r) = true := by simpa using h
            clear h
            go_wp2
            go_ret2
            exact ⟨ret_2 HX.out.1.symm HX.out.2.symm, BB.out⟩
          · have t1 : decide (c - r < r) = false := by simp; omega
            have t2 : (r == c - r) = true := by simp; omega
            have t3 : (n.tmod 2 != 0) = true := by rw [T]; simpa using h2
            clear h h2 T
            go_wp2
            go_ret2
            exact ⟨ret_2 HX.out.1.symm HX.out.2.symm, BB.out⟩
        · have HX := hid (rnd_more (p := p) (c := c) (mode := mode) (by rw [ERR.out, ← HR.out]; exact hu) F3.out (by rw [← F2.out]; exact hx))
          have ex : (n == 9223372036854775807) = false := by simpa using hx
          have n0 : -9223372036854775808 ≤ n := HI.out.1
          have n1 : n + 1 ≤ 9223372036854775807 := by have := HI.out.2; omega
          have F2' : Hid (n + 1 = p / c + 1) := by show _ = _; rw [F2.out]
          clear hu HR hx
          rcases hcase with ⟨rfl, h⟩ | ⟨rfl, h⟩ | ⟨rfl, h⟩ | ⟨rfl, h, h2⟩
          · clear T
            have t1 : decide (0 < r) = true := by simpa using h
            clear h
            go_wp2
            go_ret2
            exact ⟨ret_2 (F2'.out.trans HX.out.1.symm) HX.out.2.symm, BB.out⟩
          · clear T
            have t1 : decide (c - r ≤ r) = true := by simpa using h
            clear h
            go_wp2
            go_ret2
            exact ⟨ret_2 (F2'.out.trans HX.out.1.symm) HX.out.2.symm, BB.out⟩
          · clear T
            have t1 : decide (c - r < r) = true := by simpa using h
            clear h
            go_wp2
            go_ret2
            exact ⟨ret_2 (F2'.out.trans HX.out.1.symm) HX.out.2.symm, BB.out⟩
          · have t1 : decide (c - r < r) = false := by simp; omega
            have t2 : (r == c - r) = true := by simp; omega
            have t3 : (n.tmod 2 != 0) = true := by rw [T]; simpa using h2
            clear h h2 T
            go_wp2
            go_ret2
            exact ⟨ret_2 (F2'.out.trans HX.out.1.symm) HX.out.2.symm, BB.out⟩
theorem muldiv_any (a b c mode : Int) (w : World) (ha : I64 a) (hb : I64 b) (hc : I64 c) :
    Calls Tryz.prog 57 #[.int .i64 a, .int .i64 b, .int .i64 c, .int .i64 mode] w fun e w' => e = .returned (.tuple #[.int .i64 (mdn (a * b) c mode), .bool (mdb (a * b) c mode)]) ∧ Below w.heap.size w w' := by
  by_cases hc0 : 0 < c
  · by_cases hm : goodm mode = true
    · rw [mdn_good hc0 hm, mdb_good hc0 hm]
      exact muldiv_good a b c mode w ha hb hc hc0 hm
    · have hm' : goodm mode = false := by simpa using hm
      rw [mdn_m hm', mdb_m hm']
      refine (muldiv_m a b c mode w hc0 hm').mono ?_
      rintro e w' ⟨rfl, rfl⟩
      exact ⟨rfl, Below.refl _ _⟩
  · rw [mdn_c (by omega), mdb_c (by omega)]
    refine (muldiv_c a b c mode w (by omega)).mono ?_
    rintro e w' ⟨rfl, rfl⟩
    exact ⟨rfl, Below.refl _ _⟩
end Go.Proofs.YtjgogpaedaffkaaGreat.R2
/- Package tree, walked: a meter, a fee without its place; whether two are one. -/
namespace Go.Proofs.YtjgogpaedaffkaaGreat.Te
open Go.RowKit Go.Sort P Mm Tl
theorem bel_alloc2 (w : World) (x y : Obj) : Below w.heap.size w ((w.alloc x).alloc y) := bel_on (bel_alloc w x) (bel_alloc _ y)
end Go.Proofs.YtjgogpaedaffkaaGreat.Te
/- The laws of layer 6, out of what package tree answers ('Tr'): alive. -/
namespace Go.Proofs.YtjgogpaedaffkaaGreat.L06
open Go.RowKit Go.Sort P Mm R6
/-- Rows of which no one is greater than a text of a script can tell. -/
structure Mid (p : Plan) : Prop where
  meters : p.meters.length ≤ 100000
  fees : p.fees.length ≤ 100000
  charges : p.charges.length ≤ 100000
  parts : ∀ c ∈ p.charges, c.tiers.length ≤ 100000 ∧ c.adjusts.length ≤ 100000
def mB (col : Int) : Meter := ⟨⟨#[98]⟩, ⟨#[]⟩, 0, 0, col⟩
def mA : Meter := ⟨⟨#[97]⟩, ⟨#[]⟩, 0, 0, 0⟩
def d0 : Day := ⟨0, 0, 0⟩
def q0 : Plan := ⟨⟨#[112]⟩, ⟨#[]⟩, d0, d0, [mB 7, mA], [⟨5, ⟨false, d0, d0⟩, 0, 0⟩], [], 3, 0⟩
end Go.Proofs.YtjgogpaedaffkaaGreat.L06
/- The laws of layer 6: TreeNames (pure part and walk). -/
namespace Go.Proofs.YtjgogpaedaffkaaGreat.L06
open Go.RowKit Go.Sort P Mm R6
/-- The first place of a name, counted on from k. -/
def scan (name : ByteArray) : List Meter → Int → Int
  | [], _ => -1
  | m :: t, k => if m.name = name then k else scan name t (k + 1)
theorem scan_find (name : ByteArray) : ∀ (l : List Meter) (k : Int), scan name l k = (match l.findIdx? (fun m => decide (m.name = name)) with
  | some i => (i : Int) + k
  | none => -1)
  | [], k => by simp [scan]
  | m :: t, k => by
    rw [scan, List.findIdx?_cons, scan_find name t (k + 1)]
    by_cases e : m.name = name
    · simp [e]
    · simp only [e, if_false, decide_false, Bool.false_eq_true]
      cases t.findIdx? (fun m => decide (m.name = name)) with
      | none => rfl
      | some i => show (i : Int) + (k + 1) = ((i + 1 : Nat) : Int) + k; omega
theorem scan_drop {name : ByteArray} {l : List Meter} {i : Nat} {m : Meter} (h : l[i]? = some m) : scan name (l.drop i) i = if m.name = name then (i : Int) else scan name (l.drop (i + 1)) ((i : Int) + 1) := by
  obtain ⟨hl, e⟩ := List.getElem?_eq_some_iff.1 h
  rw [List.drop_eq_getElem_cons hl, scan, e]
end Go.Proofs.YtjgogpaedaffkaaGreat.L06
