/- What the document's answers for layer 4 (poundageref04) come to: Text. -/
import Derived.Test.YtkjlcbjfnffpfaaDoorRef4c
import Derived.Test.YtkjlcbjfnffpfaaDoorDecT
import Derived.Lib.AppendIntMem
namespace Go.Proofs.YtkjlcbjfnffpfaaDoor.R4
open Go.RowKit P Ex

theorem ba_list (l : List UInt8) : (⟨l.toArray⟩ : ByteArray).toList = l := by rw [Lib.toList_data]
/-- 'string([]byte{byte('0' + n%10)})'. -/
theorem digit_text (q : Int) (w : World) (h : 0 ≤ q) : ∃ B : ByteArray, B = ⟨[dch (q.toNat % 10)].toArray⟩ ∧
    (convert 47 9 (.slice (some ⟨w.heap.size, 0, none⟩) 1 1)).run Tryd.prog (w.alloc (.cells #[.int .u8 (48 + q % 10)] 5)) = .ok (.string B) (w.alloc (.cells #[.int .u8 (48 + q % 10)] 5)) := by
  have hc : q.toNat % 10 < 10 := Nat.mod_lt _ (by decide)
  have hx : ((dch (q.toNat % 10)).toNat : Int) = 48 + q % 10 := by rw [dig_toNat hc]; omega
  refine ⟨_, rfl, ?_⟩
  exact run_convert_bytes_back (P := Tryd.prog) (w.alloc (.cells #[.int .u8 (48 + q % 10)] 5)) 47 9 5 ⟨w.heap.size, 0, none⟩ 1 [dch (q.toNat % 10)] Tryd.underlying47 Tryd.underlying5 Tryd.underlying9 (fun j hj => by
    obtain rfl : j = 0 := by simpa using hj
    rw [Lib.add_plain, World.cell?_alloc_new]
    show some (Value.int .u8 (48 + q % 10)) = some (Value.int .u8 (((dch (q.toNat % 10)).toNat : Nat) : Int))
    rw [hx])
theorem text_no (n places : Int) (w : World) (h : n < 0 ∨ places < 0 ∨ 9 < places) :
    Calls Tryd.prog 13 #[.int .i64 n, .int .i64 places] w fun e w' => e = .returned (.string ⟨#[]⟩) ∧ Below w.heap.size w w' := by
  have h' : n < 0 ∨ (¬ n < 0 ∧ places < 0) ∨ (¬ n < 0 ∧ ¬ places < 0 ∧ 9 < places) := by omega
  clear h
  go_enter Tryd.func13, Tryd.ntmps13
  rcases h' with h | ⟨h0, h⟩ | ⟨h0, h, h1⟩
  all_goals
    go_wp2
    go_ret
    exact ⟨rfl, Below.refl _ _⟩
set_option maxHeartbeats 4000000 in
theorem text_yes (n places : Int) (w : World) (h0 : 0 ≤ n) (hn : I64 n) (p0 : 0 ≤ places) (p9 : places ≤ 9) :
    Calls Tryd.prog 13 #[.int .i64 n, .int .i64 places] w fun e w' => e = .returned (.string ⟨(tx n.toNat places.toNat).toArray⟩) ∧ Below w.heap.size w w' := by
  have hTl : (tx n.toNat places.toNat).length ≤ 30 := tx_length (by unfold I64 at hn; omega) (by omega)
  have hn1 : n ≤ 9223372036854775807 := hn.2
  clear hn
  obtain ⟨T, hT⟩ : ∃ T, T = tx n.toNat places.toNat := ⟨_, rfl⟩
  rw [← hT] at hTl ⊢
  replace hT := hid hT
  go_enter Tryd.func13, Tryd.ntmps13
  go_wp2
  go_loopw [0, 5, 6] (fun q s k wr => ∃ (q' k' : Int) (S : ByteArray), q = .int .i64 q' ∧ s = .string S ∧ k = .int .i64 k' ∧ 0 ≤ q' ∧ q' ≤ 9223372036854775807 ∧ 0 ≤ k' ∧ k' ≤ places ∧ Hid (q'.toNat = n.toNat / 10 ^ k'.toNat ∧ S = ⟨(fs n.toNat k'.toNat).toArray⟩) ∧ Below w.heap.size w wr) (fun _ _ k _ => (places - intOf k).toNat)
  case atStart => exact ⟨n, 0, ⟨#[]⟩, rfl, rfl, rfl, h0, hn1, by omega, p0, hid ⟨by simp, rfl⟩, Below.refl _ _⟩
  case round =>
    obtain ⟨q', k', S, rfl, rfl, rfl, q0, q1, k0, k1, hq, hb⟩ := hrel
    obtain ⟨hqe, hS⟩ := hq.out
    have hSl : S.toList = fs n.toNat k'.toNat := by rw [hS, ba_list]
    have hSz : S.size = (fs n.toNat k'.toNat).length := by rw [hS, ba_size]
    have hfl := fs_length n.toNat k'.toNat
    by_cases hlt : k' < places
    · have e1 : (k' + 1).toNat = k'.toNat + 1 := by omega
      have hq2 : (q' / 10).toNat = n.toNat / 10 ^ (k' + 1).toNat := by rw [e1, Nat.pow_succ, ← Nat.div_div_eq_div_mul, ← hqe]; omega
      obtain ⟨B, hB, hcv⟩ := digit_text q' wr q0
      have hBz : B.size = 1 := by rw [hB, ba_size]; rfl
      have hs1 : ¬ 9223372036854775807 < B.size + S.size := by omega
      have put : (fs n.toNat k'.toNat ≠ [] ∨ q'.toNat % 10 ≠ 0) → Hid ((q' / 10).toNat = n.toNat / 10 ^ (k' + 1).toNat ∧ B ++ S = ⟨(fs n.toNat (k' + 1).toNat).toArray⟩) := fun h => hid ⟨hq2, by
        rw [e1, fs_yes (by rw [← hqe]; exact h), hB, hS, ba_append, ← hqe]
        rfl⟩
      have skp : fs n.toNat k'.toNat = [] → q'.toNat % 10 = 0 → Hid ((q' / 10).toNat = n.toNat / 10 ^ (k' + 1).toNat ∧ S = ⟨(fs n.toNat (k' + 1).toNat).toArray⟩) := fun h h2 => hid ⟨hq2, by
        rw [e1, fs_no h (by rw [← hqe]; exact h2), hS, h]⟩
      have hb2 := fun o => hb.alloc hb.size o
      by_cases hf : fs n.toNat k'.toNat = []
      · have c1 : (S.toList == []) = true := by rw [hSl, hf]; rfl
        by_cases hz : q' % 10 = 0
        · have H := skp hf (by omega)
          have c2 : (q' % 10 != 0) = false := by rw [hz]; rfl
          clear put skp hqe hS hSl hq2 hB hq e1
          go_wp2
          go_roundw
          case rel => exact ⟨q' / 10, k' + 1, S, rfl, rfl, rfl, by omega, by omega, by omega, by omega, H, hb⟩
          case measure => simp [intOf]; omega
        · have H := put (.inr (by omega))
          have c2 : (q' % 10 != 0) = true := by simpa using hz
          clear put skp hqe hS hSl hq2 hB hq e1
          go_wp2
          go_roundw
          case rel => exact ⟨q' / 10, k' + 1, _, rfl, rfl, rfl, by omega, by omega, by omega, by omega, H, hb2 _⟩
          case measure => simp [intOf]; omega
      · have H := put (.inl hf)
        have c1 : (S.toList == []) = false := by rw [hSl, beq_eq_false_iff_ne]; exact hf
        clear put skp hqe hS hSl hq2 hB hq e1
        go_wp2
        go_roundw
        case rel => exact ⟨q' / 10, k' + 1, _, rfl, rfl, rfl, by omega, by omega, by omega, by omega, H, hb2 _⟩
        case measure => simp [intOf]; omega
    · obtain rfl : k' = places := by omega
      have htl : (⟨(tail n.toNat k'.toNat).toArray⟩ : ByteArray) = if fs n.toNat k'.toNat = [] then S else ⟨#[46]⟩ ++ S := by
        rw [hS]
        unfold tail
        split
        · rename_i h; rw [h]
        · rw [show (⟨#[46]⟩ : ByteArray) = ⟨([46] : List UInt8).toArray⟩ from rfl, ba_append]; rfl
      have hfull : Lib.decDigits q'.toNat ++ tail n.toNat k'.toNat = T := by rw [hT.out, tx, hqe]
      have hone : (⟨#[46]⟩ : ByteArray).size = 1 := rfl
      have hs2 : ¬ 9223372036854775807 < 1 + S.size := by omega
      by_cases hf : fs n.toNat k'.toNat = []
      · rw [if_pos hf] at htl
        have c1 : (S.toList == []) = true := by rw [hSl, hf]; rfl
        have HF := hid hfull
        have HT := hid htl
        clear hfull htl hqe hS hSl hq
        go_wp2
        go_loopw [0, 5] (fun q s wx => ∃ (q2 : Int) (S2 : ByteArray), q = .int .i64 q2 ∧ s = .string S2 ∧ 0 ≤ q2 ∧ q2 ≤ 9223372036854775807 ∧ Hid (∃ sl : List UInt8, S2 = ⟨sl.toArray⟩ ∧ Lib.decDigits q2.toNat ++ sl = T) ∧ Below w.heap.size w wx) (fun q _ _ => (intOf q).toNat)
        case atStart => exact ⟨q', _, rfl, rfl, q0, q1, hid ⟨_, HT.out.symm, HF.out⟩, hb⟩
        case round =>
          obtain ⟨q2, S2, rfl, rfl, r0, r1, hsl, hb2⟩ := hrel
          obtain ⟨sl, hS2, hTT⟩ := hsl.out
          obtain ⟨B, hB, hcv⟩ := digit_text q2 wr r0
          have hBz : B.size = 1 := by rw [hB, ba_size]; rfl
          have hS2z : S2.size = sl.length := by rw [hS2, ba_size]
          have hll : (Lib.decDigits q2.toNat ++ sl).length ≤ 30 := by rw [hTT]; exact hTl
          rw [List.length_append] at hll
          have hs3 : ¬ 9223372036854775807 < B.size + S2.size := by omega
          have hb3 := fun o => hb2.alloc hb2.size o
          have hBS : B ++ S2 = ⟨(dch (q2.toNat % 10) :: sl).toArray⟩ := by rw [hB, hS2, ba_append]; rfl
          by_cases hl : q2 < 10
          · have hz : q2 / 10 = 0 := by omega
            have hfin : Hid (B ++ S2 = ⟨T.toArray⟩) := hid (by rw [hBS, ← hTT, dec_last (by omega), show q2.toNat % 10 = q2.toNat by omega]; rfl)
            clear hB hS2 hTT hBS hll hsl
            go_wp2
            go_ret
            exact ⟨ret_s hfin.out, hb3 _⟩
          · have hz : (q2 / 10 == 0) = false := by simp; omega
            have H : Hid (∃ sl : List UInt8, B ++ S2 = ⟨sl.toArray⟩ ∧ Lib.decDigits (q2 / 10).toNat ++ sl = T) := hid ⟨_, hBS, by
              rw [← hTT, dec_more (q := q2.toNat) (by omega), show (q2 / 10).toNat = q2.toNat / 10 by omega, List.append_assoc]
              rfl⟩
            clear hB hS2 hTT hBS hll hsl
            go_wp2
            go_roundw
            case rel => exact ⟨_, _, rfl, rfl, by omega, by omega, H, hb3 _⟩
            case measure => simp [intOf]; omega
      · rw [if_neg hf] at htl
        have c1 : (S.toList == []) = false := by rw [hSl, beq_eq_false_iff_ne]; exact hf
        have HF := hid hfull
        have HT := hid htl
        clear hfull htl hqe hS hSl hq
        go_wp2
        go_loopw [0, 5] (fun q s wx => ∃ (q2 : Int) (S2 : ByteArray), q = .int .i64 q2 ∧ s = .string S2 ∧ 0 ≤ q2 ∧ q2 ≤ 9223372036854775807 ∧ Hid (∃ sl : List UInt8, S2 = ⟨sl.toArray⟩ ∧ Lib.decDigits q2.toNat ++ sl = T) ∧ Below w.heap.size w wx) (fun q _ _ => (intOf q).toNat)
        case atStart => exact ⟨q', _, rfl, rfl, q0, q1, hid ⟨_, HT.out.symm, HF.out⟩, hb⟩
        case round =>
          obtain ⟨q2, S2, rfl, rfl, r0, r1, hsl, hb2⟩ := hrel
          obtain ⟨sl, hS2, hTT⟩ := hsl.out
          obtain ⟨B, hB, hcv⟩ := digit_text q2 wr r0
          have hBz : B.size = 1 := by rw [hB, ba_size]; rfl
          have hS2z : S2.size = sl.length := by rw [hS2, ba_size]
          have hll : (Lib.decDigits q2.toNat ++ sl).length ≤ 30 := by rw [hTT]; exact hTl
          rw [List.length_append] at hll
          have hs3 : ¬ 9223372036854775807 < B.size + S2.size := by omega
          have hb3 := fun o => hb2.alloc hb2.size o
          have hBS : B ++ S2 = ⟨(dch (q2.toNat % 10) :: sl).toArray⟩ := by rw [hB, hS2, ba_append]; rfl
          by_cases hl : q2 < 10
          · have hz : q2 / 10 = 0 := by omega
            have hfin : Hid (B ++ S2 = ⟨T.toArray⟩) := hid (by rw [hBS, ← hTT, dec_last (by omega), show q2.toNat % 10 = q2.toNat by omega]; rfl)
            clear hB hS2 hTT hBS hll hsl
            go_wp2
            go_ret
            exact ⟨ret_s hfin.out, hb3 _⟩
          · have hz : (q2 / 10 == 0) = false := by simp; omega
            have H : Hid (∃ sl : List UInt8, B ++ S2 = ⟨sl.toArray⟩ ∧ Lib.decDigits (q2 / 10).toNat ++ sl = T) := hid ⟨_, hBS, by
              rw [← hTT, dec_more (q := q2.toNat) (by omega), show (q2 / 10).toNat = q2.toNat / 10 by omega, List.append_assoc]
              rfl⟩
            clear hB hS2 hTT hBS hll hsl
            go_wp2
            go_roundw
            case rel => exact ⟨_, _, rfl, rfl, by omega, by omega, H, hb3 _⟩
            case measure => simp [intOf]; omega
end Go.Proofs.YtkjlcbjfnffpfaaDoor.R4
