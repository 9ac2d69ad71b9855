/- What package date does: the texts of days. -/
import Derived.Test.YtnhhhnngocdagaaDoorJRound
import Derived.Lib.AppendIntMem
import Derived.Test.YtnhhhnngocdagaaDoorJLays
import Derived.Test.YtnhhhnngocdagaaDoorJRef1b
import Derived.Test.YtnhhhnngocdagaaDoorJShL
import Derived.Test.YtnhhhnngocdagaaDoorJDatB
import Derived.Lib.OthersKept
import Derived.Laws.RangeAny
import Derived.Test.YtnhhhnngocdagaaDoorJRef7
import Derived.Test.YtnhhhnngocdagaaDoorJShT
import Derived.Test.YtnhhhnngocdagaaDoorJParS
import Derived.Deep.RegionWith
namespace Go.Proofs.YtnhhhnngocdagaaDoor.Dt
open Go.RowKit Go.Sort P
/-- The library's table of powers of ten stands as the program's text lays it. -/
def Tab (w : World) : Prop := Lib.TabIs Tryd.prog w "internal/strconv.uint64pow10" .u64 Lib.pow10Tab
theorem Tab.later {w w' : World} (h : Tab w) (b : Below w.heap.size w w') : Tab w' := Lib.tabBelow_of_tabIs h _ b
theorem itoa_any (n : Int) (w : World) (h0 : 0 ≤ n) (h1 : n ≤ 9999) (T : Tab w) :
    Calls Tryd.prog 16 #[.int .i64 n] w fun e w' => e = .returned (.string ⟨(Lib.decDigits n.toNat).toArray⟩) ∧ Below w.heap.size w w' := by
  refine (Any.strconv_Itoa Tryd.laysM171 n (by omega) (by omega) w T).mono ?_
  rintro e w' ⟨rfl, k, os, rfl⟩
  refine ⟨?_, Lib.below_grow _ _ (Nat.le_refl _) _ _⟩
  have e : n = (n.toNat : Int) := by omega
  rw [e, Lib.itoa_nonneg]
  rfl
end Go.Proofs.YtnhhhnngocdagaaDoor.Dt
/- What package decimal does: digits, plain, goodPlaces, tens, number. -/
namespace Go.Proofs.YtnhhhnngocdagaaDoor.Dc
open Go.RowKit Go.Sort P Ex
theorem take_byte (s : ByteArray) (i : Nat) (h : i < s.size) : s.data.toList.take (i + 1) = s.data.toList.take i ++ [s[i]'h] := by
  have hl : i < s.data.toList.length := by simpa using h
  rw [← at_byte s i h, List.take_add_one, List.getElem?_eq_getElem hl]
  rfl
/-- What the range over a text hands over: a digit is that digit; any other byte gives no digit. -/
theorem rune_of (s : ByteArray) (i : Nat) (h : i < s.size) : (isDg (s[i]'h) = true ∧ Utf8.decode s i = ((s[i]'h).toNat, 1)) ∨ (isDg (s[i]'h) = false ∧ ((Utf8.decode s i).1 < 48 ∨ 57 < (Utf8.decode s i).1)) := by
  by_cases ha : (s[i]'h).toNat < 128
  · have e := decode_ascii s i h ha
    by_cases hd : isDg (s[i]'h) = true
    · exact .inl ⟨hd, e⟩
    · refine .inr ⟨by simpa using hd, ?_⟩
      rw [isDg_iff] at hd
      rw [e]
      show (s[i]'h).toNat < 48 ∨ 57 < (s[i]'h).toNat
      omega
  · have e := (decode_high s i h (by omega)).1
    refine .inr ⟨?_, .inr (by omega)⟩
    unfold isDg
    rw [decide_eq_false_iff_not]
    omega
theorem not_all (s : ByteArray) (i : Nat) (h : i < s.size) (hb : isDg (s[i]'h) = false) : s.data.toList.all isDg = false := by
  rw [Bool.eq_false_iff]
  intro k
  rw [List.all_eq_true] at k
  have hl : i < s.data.toList.length := by simpa using h
  have := k _ (List.getElem_mem hl)
  rw [at_byte s i h, hb] at this
  cases this
theorem all_at (s : ByteArray) (i : Nat) (h : i < s.size) (ha : s.data.toList.all isDg = true) : isDg (s[i]'h) = true := by
  rw [List.all_eq_true] at ha
  have hl : i < s.data.toList.length := by simpa using h
  have := ha _ (List.getElem_mem hl)
  rwa [at_byte s i h] at this
theorem pow_step (n : Int) (j k : Nat) (h : j < k) (hn : 0 ≤ n) : n * 10 ^ j * 10 = n * 10 ^ (j + 1) ∧ n * 10 ^ (j + 1) ≤ n * 10 ^ k ∧ 0 ≤ n * 10 ^ (j + 1) := by
  refine ⟨by rw [Int.mul_assoc, Int.pow_succ], Int.mul_le_mul_of_nonneg_left ?_ hn, Int.mul_nonneg hn (Int.pow_nonneg (by omega))⟩
  have : (10 : Nat) ^ (j + 1) ≤ 10 ^ k := Nat.pow_le_pow_right (by decide) h
  exact_mod_cast this
end Go.Proofs.YtnhhhnngocdagaaDoor.Dc
/- What package decimal does: number, and what a text is. -/
namespace Go.Proofs.YtnhhhnngocdagaaDoor.Dc
open Go.RowKit Go.Sort P Ex
theorem stV_ge : ∀ (b a : List UInt8), b.all isDg = true → stV a ≤ stV (a ++ b)
  | b, a, h => by
    rw [stV_digits b a h]
    have : 0 < 10 ^ b.length := Nat.pow_pos (by decide)
    have h2 : stV a * 1 ≤ stV a * 10 ^ b.length := Nat.mul_le_mul_left _ (by omega)
    omega
theorem stV_take (l : List UInt8) (i : Nat) (h : l.all isDg = true) : stV (l.take i) ≤ stV l := by
  have h2 : (l.drop i).all isDg = true := by
    rw [List.all_eq_true] at *
    exact fun b hb => h b (List.mem_of_mem_drop hb)
  have := stV_ge (l.drop i) (l.take i) h2
  rwa [List.take_append_drop] at this
def Tab (w : World) : Prop := Lib.TabIs Tryd.prog w "internal/strconv.uint64pow10" .u64 Lib.pow10Tab
theorem itoa_any (n : Int) (w : World) (h0 : 0 ≤ n) (h1 : I64 n) (T : Tab w) :
    Calls Tryd.prog 16 #[.int .i64 n] w fun e w' => e = .returned (.string ⟨(Lib.decDigits n.toNat).toArray⟩) ∧ Below w.heap.size w w' := by
  unfold I64 at h1
  refine (Any.strconv_Itoa Tryd.laysM171 n (by omega) (by omega) w T).mono ?_
  rintro e w' ⟨rfl, k, os, rfl⟩
  refine ⟨?_, Lib.below_grow _ _ (Nat.le_refl _) _ _⟩
  have e : n = (n.toNat : Int) := by omega
  rw [e, Lib.itoa_nonneg]
  rfl
end Go.Proofs.YtnhhhnngocdagaaDoor.Dc
/- What package decimal does: Of, Parse. -/
namespace Go.Proofs.YtnhhhnngocdagaaDoor.Dc
open Go.RowKit Go.Sort P Ex
/-- What Of answers, by what the cut answers. -/
def fc (a b : List UInt8) (found : Bool) : Int := if pl a then (if found then (if b.all isDg && !b.isEmpty then 2 else 0) else 1) else 0
theorem fm_fc (l : List UInt8) : (fm l : Int) = fc (Lib.cut l [46]).1 (Lib.cut l [46]).2.1 (Lib.cut l [46]).2.2 := by
  rcases cut_one l 46 with ⟨h, e⟩ | ⟨a, b, h, h2, e⟩
  · rw [e, fm_cut_no h]
    unfold fc
    cases pl l <;> rfl
  · rw [e, h, fm_cut_yes h2]
    unfold fc
    cases pl a <;> cases (b.all isDg && !b.isEmpty) <;> rfl
theorem mk_list (l : List UInt8) : (⟨l.toArray⟩ : ByteArray).data.toList = l := by simp
/-- What a number's cut tells of what it comes to. -/
theorem cut_tells {l : List UInt8} (h : fm l ≠ 0) : ∃ a b f, Lib.cut l [46] = (a, b, f) ∧ (a ++ b).all isDg = true ∧ stV (a ++ b) = stV l ∧ max (stB l) 0 = b.length ∧ a.length + b.length ≤ l.length := by
  rcases cut_one l 46 with ⟨h1, e⟩ | ⟨a, b, h1, h2, e⟩
  · rw [fm_cut_no h1] at h
    have hp : pl l = true := by
      cases k : pl l
      · rw [k] at h; exact absurd rfl h
      · rfl
    obtain ⟨x, _, _⟩ := pl_oddHead hp
    refine ⟨l, [], false, e, by rwa [List.append_nil], by rw [List.append_nil], ?_, by simp⟩
    rw [stB_plain x]; rfl
  · rw [h1, fm_cut_yes h2] at h
    have hp : (pl a && (b.all isDg && !b.isEmpty)) = true := by
      cases k : (pl a && (b.all isDg && !b.isEmpty))
      · rw [k] at h; exact absurd rfl h
      · rfl
    rw [Bool.and_eq_true, Bool.and_eq_true] at hp
    obtain ⟨x, _, _⟩ := pl_oddHead hp.1
    refine ⟨a, b, true, e, by rw [List.all_append, x, hp.2.1]; rfl, by rw [h1, stV_cut hp.2.1], ?_, by rw [h1]; simp⟩
    rw [h1, stB_cut hp.2.1]; omega
theorem pw_bad {l : List UInt8} {p : Int} (most : Int) (h : pBad l p = true) : pN l p most = 0 ∧ pW l p most = 1 := by
  unfold pN pW; rw [h]; exact ⟨rfl, rfl⟩
theorem pw_great {l : List UInt8} {p most : Int} (h : pBad l p = false) (g : pGreat l p most = true) : pN l p most = 0 ∧ pW l p most = 2 := by
  unfold pN pW; rw [h, g]; exact ⟨rfl, rfl⟩
theorem pw_fine {l : List UInt8} {p most : Int} (h : pBad l p = false) (g : pGreat l p most = false) : pN l p most = pV l p ∧ pW l p most = 0 := by
  unfold pN pW; rw [h, g]; exact ⟨rfl, rfl⟩
theorem big_pow {v : Int} {j : Nat} (hv0 : 0 ≤ v) (h : ¬ I64 v) : ¬ I64 (v * 10 ^ j) := by
  have hp : (0 : Int) < 10 ^ j := Int.pow_pos (by decide)
  obtain ⟨y, hy⟩ : ∃ y : Int, y = 10 ^ j := ⟨_, rfl⟩
  rw [← hy] at hp ⊢
  have h5 : v * 1 ≤ v * y := Int.mul_le_mul_of_nonneg_left (by omega) hv0
  obtain ⟨z, hz⟩ : ∃ z : Int, z = v * y := ⟨_, rfl⟩
  rw [← hz] at h5 ⊢
  clear hz hy
  unfold I64 at *
  omega
end Go.Proofs.YtnhhhnngocdagaaDoor.Dc
/- What the document's answers for layer 4 (poundageref04) come to: Text. -/
namespace Go.Proofs.YtnhhhnngocdagaaDoor.R4
open Go.RowKit P Ex
theorem ba_list (l : List UInt8) : (⟨l.toArray⟩ : ByteArray).toList = l := by rw [Lib.toList_data]
/-- 'string([]byte{byte('0' + n%10)})'. -/
theorem digit_text (q : Int) (w : World) (h : 0 ≤ q) : ∃ B : ByteArray, B = ⟨[dch (q.toNat % 10)].toArray⟩ ∧
    (convert 100 9 (.slice (some ⟨w.heap.size, 0, none⟩) 1 1)).run Tryd.prog (w.alloc (.cells #[.int .u8 (48 + q % 10)] 5)) = .ok (.string B) (w.alloc (.cells #[.int .u8 (48 + q % 10)] 5)) := by
  have hc : q.toNat % 10 < 10 := Nat.mod_lt _ (by decide)
  have hx : ((dch (q.toNat % 10)).toNat : Int) = 48 + q % 10 := by rw [dig_toNat hc]; omega
  refine ⟨_, rfl, ?_⟩
  exact run_convert_bytes_back (P := Tryd.prog) (w.alloc (.cells #[.int .u8 (48 + q % 10)] 5)) 100 9 5 ⟨w.heap.size, 0, none⟩ 1 [dch (q.toNat % 10)] Tryd.underlying100 Tryd.underlying5 Tryd.underlying9 (fun j hj => by
    obtain rfl : j = 0 := by simpa using hj
    rw [Lib.add_plain, World.cell?_alloc_new]
    show some (Value.int .u8 (48 + q % 10)) = some (Value.int .u8 (((dch (q.toNat % 10)).toNat : Nat) : Int))
    rw [hx])
theorem text_no (n places : Int) (w : World) (h : n < 0 ∨ places < 0 ∨ 9 < places) :
    Calls Tryd.prog 39 #[.int .i64 n, .int .i64 places] w fun e w' => e = .returned (.string ⟨#[]⟩) ∧ Below w.heap.size w w' := by
  have h' : n < 0 ∨ (¬ n < 0 ∧ places < 0) ∨ (¬ n < 0 ∧ ¬ places < 0 ∧ 9 < places) := by omega
  clear h
  go_enter Tryd.func39, Tryd.ntmps39
  rcases h' with h | ⟨h0, h⟩ | ⟨h0, h, h1⟩
  all_goals
    go_wp2
    go_ret
    exact ⟨rfl, Below.refl _ _⟩
set_option maxHeartbeats 4000000 in
theorem text_yes (n places : Int) (w : World) (h0 : 0 ≤ n) (hn : I64 n) (p0 : 0 ≤ places) (p9 : places ≤ 9) :
    Calls Tryd.prog 39 #[.int .i64 n, .int .i64 places] w fun e w' => e = .returned (.string ⟨(tx n.toNat places.toNat).toArray⟩) ∧ Below w.heap.size w w' := by
  have hTl : (tx n.toNat places.toNat).length ≤ 30 := tx_length (by unfold I64 at hn; omega) (by omega)
  have hn1 : n ≤ 9223372036854775807 := hn.2
  clear hn
  obtain ⟨T, hT⟩ : ∃ T, T = tx n.toNat places.toNat := ⟨_, rfl⟩
  rw [← hT] at hTl ⊢
  replace hT := hid hT
  go_enter Tryd.func39, Tryd.ntmps39
  go_wp2
  go_loopw [0, 5, 6] (fun q s k wr => ∃ (q' k' : Int) (S : ByteArray), q = .int .i64 q' ∧ s = .string S ∧ k = .int .i64 k' ∧ 0 ≤ q' ∧ q' ≤ 9223372036854775807 ∧ 0 ≤ k' ∧ k' ≤ places ∧ Hid (q'.toNat = n.toNat / 10 ^ k'.toNat ∧ S = ⟨(fs n.toNat k'.toNat).toArray⟩) ∧ Below w.heap.size w wr) (fun _ _ k _ => (places - intOf k).toNat)
  case atStart => exact ⟨n, 0, ⟨#[]⟩, rfl, rfl, rfl, h0, hn1, by omega, p0, hid ⟨by simp, rfl⟩, Below.refl _ _⟩
  case round =>
    obtain ⟨q', k', S, rfl, rfl, rfl, q0, q1, k0, k1, hq, hb⟩ := hrel
    obtain ⟨hqe, hS⟩ := hq.out
    have hSl : S.toList = fs n.toNat k'.toNat := by rw [hS, ba_list]
    have hSz : S.size = (fs n.toNat k'.toNat).length := by rw [hS, ba_size]
    have hfl := fs_length n.toNat k'.toNat
    by_cases hlt : k' < places
    · have e1 : (k' + 1).toNat = k'.toNat + 1 := by omega
      have hq2 : (q' / 10).toNat = n.toNat / 10 ^ (k' + 1).toNat := by rw [e1, Nat.pow_succ, ← Nat.div_div_eq_div_mul, ← hqe]; omega
      obtain ⟨B, hB, hcv⟩ := digit_text q' wr q0
      have hBz : B.size = 1 := by rw [hB, ba_size]; rfl
      have hs1 : ¬ 9223372036854775807 < B.size + S.size := by omega
      have put : (fs n.toNat k'.toNat ≠ [] ∨ q'.toNat % 10 ≠ 0) → Hid ((q' / 10).toNat = n.toNat / 10 ^ (k' + 1).toNat ∧ B ++ S = ⟨(fs n.toNat (k' + 1).toNat).toArray⟩) := fun h => hid ⟨hq2, by
        rw [e1, fs_yes (by rw [← hqe]; exact h), hB, hS, ba_append, ← hqe]
        rfl⟩
      have skp : fs n.toNat k'.toNat = [] → q'.toNat % 10 = 0 → Hid ((q' / 10).toNat = n.toNat / 10 ^ (k' + 1).toNat ∧ S = ⟨(fs n.toNat (k' + 1).toNat).toArray⟩) := fun h h2 => hid ⟨hq2, by
        rw [e1, fs_no h (by rw [← hqe]; exact h2), hS, h]⟩
      have hb2 := fun o => hb.alloc hb.size o
      by_cases hf : fs n.toNat k'.toNat = []
      · have c1 : (S.toList == []) = true := by rw [hSl, hf]; rfl
        by_cases hz : q' % 10 = 0
        · have H := skp hf (by omega)
          have c2 : (q' % 10 != 0) = false := by rw [hz]; rfl
          clear put skp hqe hS hSl hq2 hB hq e1
          go_wp2
          go_roundw
          case rel => exact ⟨q' / 10, k' + 1, S, rfl, rfl, rfl, by omega, by omega, by omega, by omega, H, hb⟩
          case measure => simp [intOf]; omega
        · have H := put (.inr (by omega))
          have c2 : (q' % 10 != 0) = true := by simpa using hz
          clear put skp hqe hS hSl hq2 hB hq e1
          go_wp2
          go_roundw
          case rel => exact ⟨q' / 10, k' + 1, _, rfl, rfl, rfl, by omega, by omega, by omega, by omega, H, hb2 _⟩
          case measure => simp [intOf]; omega
      · have H := put (.inl hf)
        have c1 : (S.toList == []) = false := by rw [hSl, beq_eq_false_iff_ne]; exact hf
        clear put skp hqe hS hSl hq2 hB hq e1
        go_wp2
        go_roundw
        case rel => exact ⟨q' / 10, k' + 1, _, rfl, rfl, rfl, by omega, by omega, by omega, by omega, H, hb2 _⟩
        case measure => simp [intOf]; omega
    · obtain rfl : k' = places := by omega
      have htl : (⟨(tail n.toNat k'.toNat).toArray⟩ : ByteArray) = if fs n.toNat k'.toNat = [] then S else ⟨#[46]⟩ ++ S := by
        rw [hS]
        unfold tail
        split
        · rename_i h; rw [h]
        · rw [show (⟨#[46]⟩ : ByteArray) = ⟨([46] : List UInt8).toArray⟩ from rfl, ba_append]; rfl
      have hfull : Lib.decDigits q'.toNat ++ tail n.toNat k'.toNat = T := by rw [hT.out, tx, hqe]
      have hone : (⟨#[46]⟩ : ByteArray).size = 1 := rfl
      have hs2 : ¬ 9223372036854775807 < 1 + S.size := by omega
      by_cases hf : fs n.toNat k'.toNat = []
      · rw [if_pos hf] at htl
        have c1 : (S.toList == []) = true := by rw [hSl, hf]; rfl
        have HF := hid hfull
        have HT := hid htl
        clear hfull htl hqe hS hSl hq
        go_wp2
        go_loopw [0, 5] (fun q s wx => ∃ (q2 : Int) (S2 : ByteArray), q = .int .i64 q2 ∧ s = .string S2 ∧ 0 ≤ q2 ∧ q2 ≤ 9223372036854775807 ∧ Hid (∃ sl : List UInt8, S2 = ⟨sl.toArray⟩ ∧ Lib.decDigits q2.toNat ++ sl = T) ∧ Below w.heap.size w wx) (fun q _ _ => (intOf q).toNat)
        case atStart => exact ⟨q', _, rfl, rfl, q0, q1, hid ⟨_, HT.out.symm, HF.out⟩, hb⟩
        case round =>
          obtain ⟨q2, S2, rfl, rfl, r0, r1, hsl, hb2⟩ := hrel
          obtain ⟨sl, hS2, hTT⟩ := hsl.out
          obtain ⟨B, hB, hcv⟩ := digit_text q2 wr r0
          have hBz : B.size = 1 := by rw [hB, ba_size]; rfl
          have hS2z : S2.size = sl.length := by rw [hS2, ba_size]
          have hll : (Lib.decDigits q2.toNat ++ sl).length ≤ 30 := by rw [hTT]; exact hTl
          rw [List.length_append] at hll
          have hs3 : ¬ 9223372036854775807 < B.size + S2.size := by omega
          have hb3 := fun o => hb2.alloc hb2.size o
          have hBS : B ++ S2 = ⟨(dch (q2.toNat % 10) :: sl).toArray⟩ := by rw [hB, hS2, ba_append]; rfl
          by_cases hl : q2 < 10
          · have hz : q2 / 10 = 0 := by omega
            have hfin : Hid (B ++ S2 = ⟨T.toArray⟩) := hid (by rw [hBS, ← hTT, dec_last (by omega), show q2.toNat % 10 = q2.toNat by omega]; rfl)
            clear hB hS2 hTT hBS hll hsl
            go_wp2
            go_ret
            exact ⟨ret_s hfin.out, hb3 _⟩
          · have hz : (q2 / 10 == 0) = false := by simp; omega
            have H : Hid (∃ sl : List UInt8, B ++ S2 = ⟨sl.toArray⟩ ∧ Lib.decDigits (q2 / 10).toNat ++ sl = T) := hid ⟨_, hBS, by
              rw [← hTT, dec_more (q := q2.toNat) (by omega), show (q2 / 10).toNat = q2.toNat / 10 by omega, List.append_assoc]
              rfl⟩
            clear hB hS2 hTT hBS hll hsl
            go_wp2
            go_roundw
            case rel => exact ⟨_, _, rfl, rfl, by omega, by omega, H, hb3 _⟩
            case measure => simp [intOf]; omega
      · rw [if_neg hf] at htl
        have c1 : (S.toList == []) = false := by rw [hSl, beq_eq_false_iff_ne]; exact hf
        have HF := hid hfull
        have HT := hid htl
        clear hfull htl hqe hS hSl hq
        go_wp2
        go_loopw [0, 5] (fun q s wx => ∃ (q2 : Int) (S2 : ByteArray), q = .int .i64 q2 ∧ s = .string S2 ∧ 0 ≤ q2 ∧ q2 ≤ 9223372036854775807 ∧ Hid (∃ sl : List UInt8, S2 = ⟨sl.toArray⟩ ∧ Lib.decDigits q2.toNat ++ sl = T) ∧ Below w.heap.size w wx) (fun q _ _ => (intOf q).toNat)
        case atStart => exact ⟨q', _, rfl, rfl, q0, q1, hid ⟨_, HT.out.symm, HF.out⟩, hb⟩
        case round =>
          obtain ⟨q2, S2, rfl, rfl, r0, r1, hsl, hb2⟩ := hrel
          obtain ⟨sl, hS2, hTT⟩ := hsl.out
          obtain ⟨B, hB, hcv⟩ := digit_text q2 wr r0
          have hBz : B.size = 1 := by rw [hB, ba_size]; rfl
          have hS2z : S2.size = sl.length := by rw [hS2, ba_size]
          have hll : (Lib.decDigits q2.toNat ++ sl).length ≤ 30 := by rw [hTT]; exact hTl
          rw [List.length_append] at hll
          have hs3 : ¬ 9223372036854775807 < B.size + S2.size := by omega
          have hb3 := fun o => hb2.alloc hb2.size o
          have hBS : B ++ S2 = ⟨(dch (q2.toNat % 10) :: sl).toArray⟩ := by rw [hB, hS2, ba_append]; rfl
          by_cases hl : q2 < 10
          · have hz : q2 / 10 = 0 := by omega
            have hfin : Hid (B ++ S2 = ⟨T.toArray⟩) := hid (by rw [hBS, ← hTT, dec_last (by omega), show q2.toNat % 10 = q2.toNat by omega]; rfl)
            clear hB hS2 hTT hBS hll hsl
            go_wp2
            go_ret
            exact ⟨ret_s hfin.out, hb3 _⟩
          · have hz : (q2 / 10 == 0) = false := by simp; omega
            have H : Hid (∃ sl : List UInt8, B ++ S2 = ⟨sl.toArray⟩ ∧ Lib.decDigits (q2 / 10).toNat ++ sl = T) := hid ⟨_, hBS, by
              rw [← hTT, dec_more (q := q2.toNat) (by omega), show (q2 / 10).toNat = q2.toNat / 10 by omega, List.append_assoc]
              rfl⟩
            clear hB hS2 hTT hBS hll hsl
            go_wp2
            go_roundw
            case rel => exact ⟨_, _, rfl, rfl, by omega, by omega, H, hb3 _⟩
            case measure => simp [intOf]; omega
end Go.Proofs.YtnhhhnngocdagaaDoor.R4
/- The laws of layer 4, out of what package decimal answers ('Dec'): alive, DecimalIs, DecimalBack, DecimalPlaces. -/
namespace Go.Proofs.YtnhhhnngocdagaaDoor.L04
open Go.RowKit P R4
theorem list_of (l : List UInt8) : (⟨l.toArray⟩ : ByteArray).data.toList = l := by simp
end Go.Proofs.YtnhhhnngocdagaaDoor.L04
