/- The laws of layer 6: alive. -/
import Derived.Test.YtfeccjcdpiopaaaL06
import Derived.BigQuiet
namespace Go.Proofs.Ytfeccjcdpiopaaa.L06
open Go.RowKit Go.Sort P Mm R6

set_option maxHeartbeats 2000000 in
set_option maxRecDepth 100000 in
theorem alive_any {K : World → Prop} (D : Tr K) (w : World) (k : K w) : Calls Try.prog 8 #[] w fun e w' => e = .returned (.bool true) ∧ Below w.heap.size w w' := by
  obtain ⟨w1, hw1⟩ : ∃ w1, w1 = w.alloc (.cells ([mB 0, mA].flatMap meterC).toArray 38) := ⟨_, rfl⟩
  obtain ⟨w2, hw2⟩ : ∃ w2, w2 = w1.alloc (.cells (planC p0 (some ⟨w.heap.size, 0, none⟩) 2 none 0 none 0).toArray 28) := ⟨_, rfl⟩
  obtain ⟨w3, hw3⟩ : ∃ w3, w3 = w2.alloc (.cells ([mB 7, mA].flatMap meterC).toArray 38) := ⟨_, rfl⟩
  obtain ⟨w4, hw4⟩ : ∃ w4, w4 = w3.alloc (.cells (([⟨5, ⟨false, d0, d0⟩, 0, 0⟩] : List Fee).flatMap feeC).toArray 42) := ⟨_, rfl⟩
  obtain ⟨w5, hw5⟩ : ∃ w5, w5 = w4.alloc (.cells (planC q0 (some ⟨w.heap.size + 1 + 1, 0, none⟩) 2 (some ⟨w.heap.size + 1 + 1 + 1, 0, none⟩) 1 none 0).toArray 28) := ⟨_, rfl⟩
  have s1 : w1.heap.size = w.heap.size + 1 := by rw [hw1]; simp
  have s2 : w2.heap.size = w.heap.size + 1 + 1 := by rw [hw2]; simp [s1]
  have s3 : w3.heap.size = w.heap.size + 3 := by rw [hw3]; simp [s2]
  have s4 : w4.heap.size = w.heap.size + 1 + 1 + 1 + 1 := by rw [hw4]; simp [s3]
  have s5 : w5.heap.size = w.heap.size + 5 := by rw [hw5]; simp [s4]
  have b1 : Below w.heap.size w w1 := by rw [hw1]; exact bel_alloc _ _
  have b2 : Below w1.heap.size w1 w2 := by rw [hw2]; exact bel_alloc _ _
  have b3 : Below w2.heap.size w2 w3 := by rw [hw3]; exact bel_alloc _ _
  have b4 : Below w3.heap.size w3 w4 := by rw [hw4]; exact bel_alloc _ _
  have b5 : Below w4.heap.size w4 w5 := by rw [hw5]; exact bel_alloc _ _
  have b25 := bel_on b3 (bel_on b4 b5)
  have hp : PlanLies w5 (planC p0 (some ⟨w.heap.size, 0, none⟩) 2 none 0 none 0) p0 (some ⟨w.heap.size, 0, none⟩) 2 none 0 none 0 := by
    have := p0_lies w
    rw [← hw1] at this
    exact this.on (bel_on b2 b25)
  have hq : PlanLies w5 (planC q0 (some ⟨w.heap.size + 1 + 1, 0, none⟩) 2 (some ⟨w.heap.size + 1 + 1 + 1, 0, none⟩) 1 none 0) q0 (some ⟨w.heap.size + 1 + 1, 0, none⟩) 2 (some ⟨w.heap.size + 1 + 1 + 1, 0, none⟩) 1 none 0 := by
    have := q0_lies w2
    rw [← hw3, ← hw4, s2] at this
    exact this.on b5
  have B5 := bel_on b1 (bel_on b2 b25)
  have cp : ∀ (j : Nat) (u : Value), (planC p0 (some ⟨w.heap.size, 0, none⟩) 2 none 0 none 0)[j]? = some u → ∀ W, Below w5.heap.size w5 W → W.cell? ⟨w.heap.size + 1, j, none⟩ = some u := fun j u h W hb => by
    rw [hb.cell (by show w.heap.size + 1 < _; omega), b25.cell (by show w.heap.size + 1 < _; omega), hw2, ← s1]
    exact box13 h
  have cq : ∀ (j : Nat) (u : Value), (planC q0 (some ⟨w.heap.size + 1 + 1, 0, none⟩) 2 (some ⟨w.heap.size + 1 + 1 + 1, 0, none⟩) 1 none 0)[j]? = some u → ∀ W, Below w5.heap.size w5 W → W.cell? ⟨w.heap.size + 1 + 1 + 1 + 1, j, none⟩ = some u := fun j u h W hb => by
    rw [hb.cell (by show w.heap.size + 4 < _; omega), hw5, ← s4]
    exact box13 h
  have cN : ∀ W, Below w5.heap.size w5 W → Calls Try.prog 15 #[(Value.agg #[.string ⟨#[112]⟩, .string ⟨#[]⟩, .int .i64 0, .int .i64 0, .int .i64 0, .int .i64 0, .int .i64 0, .int .i64 0, .slice (some ⟨w.heap.size, 0, none⟩) 2 2, .slice none 0 0, .slice none 0 0, .int .i64 0, .int .i64 0])] W fun e w' => ∃ ao cap l, e = .returned (.slice ao l.length cap) ∧ Row tS w' ao l.length cap l ∧ l.Perm (p0.meters.map fun m => m.name) ∧ Rising l ∧ Below W.heap.size W w' :=
    fun W hb => D.names p0 (some ⟨w.heap.size, 0, none⟩) 2 none 0 none 0 W (D.keep k (bel_on B5 hb)) (by decide) (hp.on hb)
  have cS : ∀ W, Below w5.heap.size w5 W → Calls Try.prog 12 #[(Value.agg #[.string ⟨#[112]⟩, .string ⟨#[]⟩, .int .i64 0, .int .i64 0, .int .i64 0, .int .i64 0, .int .i64 0, .int .i64 0, .slice (some ⟨w.heap.size, 0, none⟩) 2 2, .slice none 0 0, .slice none 0 0, .int .i64 0, .int .i64 0]), (Value.agg #[.string ⟨#[112]⟩, .string ⟨#[]⟩, .int .i64 0, .int .i64 0, .int .i64 0, .int .i64 0, .int .i64 0, .int .i64 0, .slice (some ⟨w.heap.size, 0, none⟩) 2 2, .slice none 0 0, .slice none 0 0, .int .i64 0, .int .i64 0])] W fun e w' => e = .returned (.bool true) ∧ Below W.heap.size W w' :=
    fun W hb => (D.same p0 p0 (some ⟨w.heap.size, 0, none⟩) 2 none 0 none 0 (some ⟨w.heap.size, 0, none⟩) 2 none 0 none 0 W (D.keep k (bel_on B5 hb)) (hp.on hb) (hp.on hb)).mono fun e w' ⟨b, h1, h2, h3⟩ => ⟨by rw [h2, h1.2 rfl], h3⟩
  have cU : ∀ W, Below w5.heap.size w5 W → Calls Try.prog 12 #[(Value.agg #[.string ⟨#[112]⟩, .string ⟨#[]⟩, .int .i64 0, .int .i64 0, .int .i64 0, .int .i64 0, .int .i64 0, .int .i64 0, .slice (some ⟨w.heap.size, 0, none⟩) 2 2, .slice none 0 0, .slice none 0 0, .int .i64 0, .int .i64 0]), (Value.agg #[.string ⟨#[112]⟩, .string ⟨#[]⟩, .int .i64 0, .int .i64 0, .int .i64 0, .int .i64 0, .int .i64 0, .int .i64 0, .slice (some ⟨w.heap.size + 1 + 1, 0, none⟩) 2 2, .slice (some ⟨w.heap.size + 1 + 1 + 1, 0, none⟩) 1 1, .slice none 0 0, .int .i64 3, .int .i64 0])] W fun e w' => e = .returned (.bool false) ∧ Below W.heap.size W w' :=
    fun W hb => (D.same p0 q0 (some ⟨w.heap.size, 0, none⟩) 2 none 0 none 0 (some ⟨w.heap.size + 1 + 1, 0, none⟩) 2 (some ⟨w.heap.size + 1 + 1 + 1, 0, none⟩) 1 none 0 W (D.keep k (bel_on B5 hb)) (hp.on hb) (hq.on hb)).mono fun e w' ⟨b, h1, h2, h3⟩ => ⟨by
      cases b
      · exact h2
      · exact absurd (h1.1 rfl) p0_q0, h3⟩
  have cM : ∀ W, Below w5.heap.size w5 W → Calls Try.prog 16 #[(Value.agg #[.string ⟨#[112]⟩, .string ⟨#[]⟩, .int .i64 0, .int .i64 0, .int .i64 0, .int .i64 0, .int .i64 0, .int .i64 0, .slice (some ⟨w.heap.size, 0, none⟩) 2 2, .slice none 0 0, .slice none 0 0, .int .i64 0, .int .i64 0]), .string ⟨#[97]⟩] W fun e w' => e = .returned (.int .i64 1) ∧ Below W.heap.size W w' := fun W hb => by
    have := D.meter p0 ⟨#[97]⟩ (some ⟨w.heap.size, 0, none⟩) 2 none 0 none 0 W (D.keep k (bel_on B5 hb)) (hp.on hb)
    rw [find0] at this
    exact this
  have HW : Hid (w5 = ((((w.alloc (.cells #[.string ⟨#[98]⟩, .string ⟨#[]⟩, .int .i64 0, .int .i64 0, .int .i64 0, .string ⟨#[97]⟩, .string ⟨#[]⟩, .int .i64 0, .int .i64 0, .int .i64 0] 38)).alloc (.cells #[.string ⟨#[112]⟩, .string ⟨#[]⟩, .int .i64 0, .int .i64 0, .int .i64 0, .int .i64 0, .int .i64 0, .int .i64 0, .slice (some ⟨w.heap.size, 0, none⟩) 2 2, .slice none 0 0, .slice none 0 0, .int .i64 0, .int .i64 0] 28)).alloc (.cells #[.string ⟨#[98]⟩, .string ⟨#[]⟩, .int .i64 0, .int .i64 0, .int .i64 7, .string ⟨#[97]⟩, .string ⟨#[]⟩, .int .i64 0, .int .i64 0, .int .i64 0] 38)).alloc (.cells #[.int .i64 5, .bool false, .int .i64 0, .int .i64 0, .int .i64 0, .int .i64 0, .int .i64 0, .int .i64 0, .int .i64 0, .int .i64 0] 42)).alloc (.cells #[.string ⟨#[112]⟩, .string ⟨#[]⟩, .int .i64 0, .int .i64 0, .int .i64 0, .int .i64 0, .int .i64 0, .int .i64 0, .slice (some ⟨w.heap.size + 1 + 1, 0, none⟩) 2 2, .slice (some ⟨w.heap.size + 1 + 1 + 1, 0, none⟩) 1 1, .slice none 0 0, .int .i64 3, .int .i64 0] 28)) := hid (by rw [hw5, hw4, hw3, hw2, hw1]; rfl)
  have CP : Hid (∀ W, Below w5.heap.size w5 W → W.cell? ⟨w.heap.size + 1, 0, none⟩ = some (.string ⟨#[112]⟩) ∧ W.cell? ⟨w.heap.size + 1, 1, none⟩ = some (.string ⟨#[]⟩) ∧ W.cell? ⟨w.heap.size + 1, 2, none⟩ = some (.int .i64 0) ∧ W.cell? ⟨w.heap.size + 1, 3, none⟩ = some (.int .i64 0) ∧ W.cell? ⟨w.heap.size + 1, 4, none⟩ = some (.int .i64 0) ∧ W.cell? ⟨w.heap.size + 1, 5, none⟩ = some (.int .i64 0) ∧ W.cell? ⟨w.heap.size + 1, 6, none⟩ = some (.int .i64 0) ∧ W.cell? ⟨w.heap.size + 1, 7, none⟩ = some (.int .i64 0) ∧ W.cell? ⟨w.heap.size + 1, 8, none⟩ = some (.slice (some ⟨w.heap.size, 0, none⟩) 2 2) ∧ W.cell? ⟨w.heap.size + 1, 9, none⟩ = some (.slice none 0 0) ∧ W.cell? ⟨w.heap.size + 1, 10, none⟩ = some (.slice none 0 0) ∧ W.cell? ⟨w.heap.size + 1, 11, none⟩ = some (.int .i64 0) ∧ W.cell? ⟨w.heap.size + 1, 12, none⟩ = some (.int .i64 0)) := hid fun W h => ⟨cp 0 _ rfl W h, cp 1 _ rfl W h, cp 2 _ rfl W h, cp 3 _ rfl W h, cp 4 _ rfl W h, cp 5 _ rfl W h, cp 6 _ rfl W h, cp 7 _ rfl W h, cp 8 _ rfl W h, cp 9 _ rfl W h, cp 10 _ rfl W h, cp 11 _ rfl W h, cp 12 _ rfl W h⟩
  have CQ : Hid (∀ W, Below w5.heap.size w5 W → W.cell? ⟨w.heap.size + 1 + 1 + 1 + 1, 0, none⟩ = some (.string ⟨#[112]⟩) ∧ W.cell? ⟨w.heap.size + 1 + 1 + 1 + 1, 1, none⟩ = some (.string ⟨#[]⟩) ∧ W.cell? ⟨w.heap.size + 1 + 1 + 1 + 1, 2, none⟩ = some (.int .i64 0) ∧ W.cell? ⟨w.heap.size + 1 + 1 + 1 + 1, 3, none⟩ = some (.int .i64 0) ∧ W.cell? ⟨w.heap.size + 1 + 1 + 1 + 1, 4, none⟩ = some (.int .i64 0) ∧ W.cell? ⟨w.heap.size + 1 + 1 + 1 + 1, 5, none⟩ = some (.int .i64 0) ∧ W.cell? ⟨w.heap.size + 1 + 1 + 1 + 1, 6, none⟩ = some (.int .i64 0) ∧ W.cell? ⟨w.heap.size + 1 + 1 + 1 + 1, 7, none⟩ = some (.int .i64 0) ∧ W.cell? ⟨w.heap.size + 1 + 1 + 1 + 1, 8, none⟩ = some (.slice (some ⟨w.heap.size + 1 + 1, 0, none⟩) 2 2) ∧ W.cell? ⟨w.heap.size + 1 + 1 + 1 + 1, 9, none⟩ = some (.slice (some ⟨w.heap.size + 1 + 1 + 1, 0, none⟩) 1 1) ∧ W.cell? ⟨w.heap.size + 1 + 1 + 1 + 1, 10, none⟩ = some (.slice none 0 0) ∧ W.cell? ⟨w.heap.size + 1 + 1 + 1 + 1, 11, none⟩ = some (.int .i64 3) ∧ W.cell? ⟨w.heap.size + 1 + 1 + 1 + 1, 12, none⟩ = some (.int .i64 0)) := hid fun W h => ⟨cq 0 _ rfl W h, cq 1 _ rfl W h, cq 2 _ rfl W h, cq 3 _ rfl W h, cq 4 _ rfl W h, cq 5 _ rfl W h, cq 6 _ rfl W h, cq 7 _ rfl W h, cq 8 _ rfl W h, cq 9 _ rfl W h, cq 10 _ rfl W h, cq 11 _ rfl W h, cq 12 _ rfl W h⟩
  have BB := hid B5
  have HN := hid cN
  have HS := hid cS
  have HU := hid cU
  have HM := hid cM
  clear hw1 hw2 hw3 hw4 hw5 s1 s2 s3 s4 s5 b1 b2 b3 b4 b5 b25 hp hq cp cq B5 cN cS cU cM
  go_enter Try.func8, Try.ntmps8
  go_wp2_with fail
  rw [← HW.out]
  refine (HN.out w5 (Below.refl _ _)).mono ?_
  rintro e w6 ⟨ao, cap, l, rfl, hr, hperm, hris, b6⟩
  obtain rfl := names0 hperm hris
  obtain ⟨bl, ol, rfl, lbl, hl0⟩ := str_at hr (j := 0) rfl
  have P6 := CP.out w6 b6
  have Q6 := CQ.out w6 b6
  clear HW
  go_wp2_with fail
  refine (HS.out _ b6).mono ?_
  rintro e w7 ⟨rfl, b7x⟩
  have b7 := bel_on b6 b7x
  have P7 := CP.out w7 b7
  have Q7 := CQ.out w7 b7
  have hl7 := (b7x.cell (p := ⟨bl, ol + 0, none⟩) lbl).trans hl0
  have lb7 := Nat.lt_of_lt_of_le lbl b7x.size
  clear P6 Q6 hl0
  go_wp2_with fail
  refine (HU.out _ b7).mono ?_
  rintro e w8 ⟨rfl, b8⟩
  have B8 := bel_on b7 b8
  have P8 := CP.out w8 B8
  have hl8 := (b8.cell (p := ⟨bl, ol + 0, none⟩) lb7).trans hl7
  have lb8 := Nat.lt_of_lt_of_le lb7 b8.size
  clear P7 Q7 hl7
  go_wp2_with fail
  refine (HM.out _ B8).mono ?_
  rintro e w9 ⟨rfl, b9⟩
  have B9 := bel_on B8 b9
  have hl9 : w9.cell? ⟨bl, ol, none⟩ = some (.string ⟨#[97]⟩) := (b9.cell (p := ⟨bl, ol + 0, none⟩) lb8).trans hl8
  have lb9 := Nat.lt_of_lt_of_le lb8 b9.size
  clear P8 hl8
  go_wp2
  go_ret
  exact ⟨rfl, bel_on BB.out B9⟩
end Go.Proofs.Ytfeccjcdpiopaaa.L06
