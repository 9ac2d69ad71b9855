/- The document's answer for layer 2: products divided and rounded. -/
import Derived.Test.YtpmibknabckboaaRef2b
namespace Go.Proofs.Ytpmibknabckboaa.R2
open Go.RowKit P Ex R1

set_option maxHeartbeats 1000000 in
theorem edge_any (p c mode : Int) (w : World) (hp : p.natAbs < two127) (hc : I64 c) (hc0 : 0 < c) (hm : goodm mode = true) (hl : p < -9223372036854775808 * c) :
    Calls Try.prog 25 #[W p, .int .i64 c, .int .i64 mode] w fun e w' => e = .returned (.tuple #[.int .i64 (cut64 (rnd p c mode)), .bool (ok64 (rnd p c mode))]) ∧ Below w.heap.size w w' := by
  obtain ⟨y, hy⟩ : ∃ y, y = -9223372036854775808 * c := ⟨_, rfl⟩
  obtain ⟨n, hn⟩ : ∃ n, n = -p := ⟨_, rfl⟩
  obtain ⟨d, hd⟩ : ∃ d, d = y + n := ⟨_, rfl⟩
  have HY : Hid (y.natAbs < two127) := by show _ < _; rw [hy]; exact prod_lt' (by unfold I64; omega) hc
  have HN : Hid (n.natAbs < two127) := by show _ < _; rw [hn, Int.natAbs_neg]; exact hp
  have EY := hid hy
  have EN := hid hn
  have ED := hid hd
  have HD : Hid (0 < d) := by show _ < _; omega
  have HP := hid hp
  have HC := hid hc
  have HC0 := hid hc0
  have HM := hid hm
  clear hp hc hc0 hm hl hy hn hd
  rw [W_parts p]
  go_enter Try.func25, Try.ntmps25
  go_upto_region 2 with fail
  obtain ⟨w1, hw, hsz, hB, L1⟩ := boxed1 w (.bool (decide (p < 0))) (.int .u64 (hiN p.natAbs)) (.int .u64 (loN p.natAbs)) 30
  rw [hw]
  have HB := hid hB
  have keep : ∀ w', Below w1.heap.size w1 w' → w'.cell? ⟨w.heap.size, 0, none⟩ = some (.bool (decide (p < 0))) ∧ w'.cell? ⟨w.heap.size, 1, none⟩ = some (.int .u64 (hiN p.natAbs)) ∧ w'.cell? ⟨w.heap.size, 2, none⟩ = some (.int .u64 (loN p.natAbs)) ∧ Below w1.heap.size w1 w' :=
    fun w' hb => ⟨(L1.on hb).c0, (L1.on hb).c1, (L1.on hb).c2, hb⟩
  have K := hid keep
  have HSZ := hid hsz
  clear keep hw hB hsz L1
  go_cut [9] (fun s9 wx => ∃ k : Nat, s9 = .pointer (some ⟨k, 0, none⟩) ∧ Hid (Lies3 wx k (.bool (decide (d < 0))) (.int .u64 (hiN d.natAbs)) (.int .u64 (loN d.natAbs)) ∧ Below w1.heap.size w1 wx))
  case first =>
    go_region_held3 (fun w' => w'.cell? ⟨w.heap.size, 0, none⟩ = some (.bool (decide (p < 0))) ∧ w'.cell? ⟨w.heap.size, 1, none⟩ = some (.int .u64 (hiN p.natAbs)) ∧ w'.cell? ⟨w.heap.size, 2, none⟩ = some (.int .u64 (loN p.natAbs)) ∧ Below w1.heap.size w1 w')
      ((refine K.out _ ?_; repeat (first | assumption | exact Below.refl _ _ | (refine Below.drew ?_) | (refine below_on ?_ ‹_›) | (refine alloc_on ?_ _) | (refine Below.setCell ?_ (by first | omega | (simp <;> omega)) _))))
      (first
      | (go_at_call 15
         refine (R1.mul_any (-9223372036854775808) c _ (by unfold I64; omega) HC.out).mono ?_
         rintro e w2 ⟨rfl, hb1⟩
         have s2 : w1.heap.size ≤ w2.heap.size := by have := hb1.size; first | exact this | (simp at this; omega)
         first | have L := Lies3.later_drew (k := w1.heap.size) hb1 rfl | have L := Lies3.later (k := w1.heap.size) hb1 rfl | skip
         rw [← EY.out, W_parts y])
      | (go_at_call 16
         refine (opposite_any p _).mono ?_
         rintro e w3 ⟨rfl, hb2⟩
         have s3 : w2.heap.size ≤ w3.heap.size := by have := hb2.size; first | exact this | (simp at this; omega)
         first | have L := Lies3.later (k := w2.heap.size) hb2 rfl | (have M := L.on hb2; clear L; have L := M; clear M) | skip
         rw [← EN.out, W_parts n])
      | (go_at_call 14
         refine (R1.add_any y n _ HY.out HN.out).mono ?_
         rintro e w4 ⟨rfl, hb3⟩
         have s4 : w3.heap.size ≤ w4.heap.size := by have := hb3.size; first | exact this | (simp at this; omega)
         first | have L := Lies3.later (k := w3.heap.size) hb3 rfl | (have M := L.on hb3; clear L; have L := M; clear M) | skip
         try obtain ⟨l1, l2, l3, l4, l5, l6, l7⟩ := id L
         rw [← ED.out, W_parts d]))
    all_goals
      go_wp2
      go_meet
      first
        | exact ⟨_, rfl, L.set _ _ _, by repeat (first | assumption | exact Below.refl _ _ | (refine Below.drew ?_) | (refine below_on ?_ ‹_›) | (refine alloc_on ?_ _) | (refine Below.setCell ?_ (by first | omega | (simp <;> omega)) _))⟩
        | exact ⟨_, rfl, Lies3.new rfl, by repeat (first | assumption | exact Below.refl _ _ | (refine Below.drew ?_) | (refine below_on ?_ ‹_›) | (refine alloc_on ?_ _) | (refine Below.setCell ?_ (by first | omega | (simp <;> omega)) _))⟩
  case rest =>
    obtain ⟨k, rfl, HL⟩ := hcut
    obtain ⟨l0, l1, l2, l3, _, _, _⟩ := HL.out.1
    have BB : Hid (Below w.heap.size w wc) := below_on HB.out (below_on HL.out.2 (Below.refl _ _))
    have d0 := HD.out
    have hp : p = -9223372036854775808 * c - d := by have h1 := EY.out; have h2 := EN.out; have h3 := ED.out; omega
    have hmode : mode = 0 ∨ mode = 1 ∨ mode = 2 ∨ mode = 3 := by have := (goodm_iff mode).1 HM.out; omega
    have c0 := HC0.out
    have c1 : c ≤ 9223372036854775807 := by have := HC.out; unfold I64 at this; omega
    have hl := hi_lo d.natAbs
    have hlt := loN_lt d.natAbs
    rw [decide_eq_false (show ¬ d < 0 by omega)] at l1
    clear K HSZ HY HN EY EN ED HL
    by_cases hh : 0 < hiN d.natAbs
    · have HX := hid (edge_far (mode := mode) c0 (show c ≤ d by omega) hp)
      clear hp hmode hl hlt
      go_wp2
      go_ret2
      exact ⟨ret_2 (cut64_f HX.out).symm (ok64_f HX.out).symm, BB.out⟩
    · have eh : ((hiN d.natAbs : Nat) : Int) = 0 := by omega
      have el : ((loN d.natAbs : Nat) : Int) = d := by omega
      rw [eh] at l2
      rw [el] at l3
      clear hl hlt hh eh el
      by_cases hf : c ≤ d
      · have HX := hid (edge_far (mode := mode) c0 hf hp)
        clear hp hmode
        go_wp2
        go_ret2
        exact ⟨ret_2 (cut64_f HX.out).symm (ok64_f HX.out).symm, BB.out⟩
      · have hlt : d < c := by omega
        by_cases hy : mode = 1 ∨ ((mode = 2 ∨ mode = 3) ∧ d ≤ c - d)
        · have HX := hid (edge_yes d0 hlt hp hy)
          clear hp hmode
          rcases hy with rfl | ⟨rfl | rfl, hy⟩
          · go_wp2
            go_ret2
            exact ⟨ret_2 HX.out.1.symm HX.out.2.symm, BB.out⟩
          all_goals
            by_cases hz : d < c - d
            · go_wp2
              go_ret2
              exact ⟨ret_2 HX.out.1.symm HX.out.2.symm, BB.out⟩
            · have hz2 : (d == c - d) = true := by simp; omega
              have hz3 : decide (d < c - d) = false := by simp; omega
              clear hz hy
              go_wp2
              go_ret2
              exact ⟨ret_2 HX.out.1.symm HX.out.2.symm, BB.out⟩
        · have HX := hid (edge_no d0 hlt hp (show mode = 0 ∨ ((mode = 2 ∨ mode = 3) ∧ ¬ d ≤ c - d) by omega))
          clear hp
          rcases hmode with rfl | rfl | rfl | rfl
          · clear hy
            go_wp2
            go_ret2
            exact ⟨ret_2 HX.out.1.symm HX.out.2.symm, BB.out⟩
          · exact absurd (Or.inl rfl) hy
          all_goals
            have hz2 : (d == c - d) = false := by simp; omega
            have hz3 : decide (d < c - d) = false := by simp; omega
            clear hy
            go_wp2
            go_ret2
            exact ⟨ret_2 HX.out.1.symm HX.out.2.symm, BB.out⟩
end Go.Proofs.Ytpmibknabckboaa.R2
