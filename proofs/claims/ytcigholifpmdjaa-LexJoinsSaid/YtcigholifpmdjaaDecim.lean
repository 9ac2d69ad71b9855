/- What package decimal does: digits, plain, goodPlaces, tens, number. -/
import Derived.Test.YtcigholifpmdjaaLays
import Derived.Test.YtcigholifpmdjaaExact
import Derived.Test.YtcigholifpmdjaaDecR
import Derived.Test.YtcigholifpmdjaaDatB
import Derived.Lib.OthersKept
import Derived.Laws.RangeAny
namespace Go.Proofs.Ytcigholifpmdjaa.Dc
open Go.RowKit Go.Sort P Ex

theorem take_byte (s : ByteArray) (i : Nat) (h : i < s.size) : s.data.toList.take (i + 1) = s.data.toList.take i ++ [s[i]'h] := by
  have hl : i < s.data.toList.length := by simpa using h
  rw [← at_byte s i h, List.take_add_one, List.getElem?_eq_getElem hl]
  rfl
/-- What the range over a text hands over: a digit is that digit; any other byte gives no digit. -/
theorem rune_of (s : ByteArray) (i : Nat) (h : i < s.size) : (isDg (s[i]'h) = true ∧ Utf8.decode s i = ((s[i]'h).toNat, 1)) ∨ (isDg (s[i]'h) = false ∧ ((Utf8.decode s i).1 < 48 ∨ 57 < (Utf8.decode s i).1)) := by
  by_cases ha : (s[i]'h).toNat < 128
  · have e := decode_ascii s i h ha
    by_cases hd : isDg (s[i]'h) = true
    · exact .inl ⟨hd, e⟩
    · refine .inr ⟨by simpa using hd, ?_⟩
      rw [isDg_iff] at hd
      rw [e]
      show (s[i]'h).toNat < 48 ∨ 57 < (s[i]'h).toNat
      omega
  · have e := (decode_high s i h (by omega)).1
    refine .inr ⟨?_, .inr (by omega)⟩
    unfold isDg
    rw [decide_eq_false_iff_not]
    omega
theorem not_all (s : ByteArray) (i : Nat) (h : i < s.size) (hb : isDg (s[i]'h) = false) : s.data.toList.all isDg = false := by
  rw [Bool.eq_false_iff]
  intro k
  rw [List.all_eq_true] at k
  have hl : i < s.data.toList.length := by simpa using h
  have := k _ (List.getElem_mem hl)
  rw [at_byte s i h, hb] at this
  cases this
theorem all_at (s : ByteArray) (i : Nat) (h : i < s.size) (ha : s.data.toList.all isDg = true) : isDg (s[i]'h) = true := by
  rw [List.all_eq_true] at ha
  have hl : i < s.data.toList.length := by simpa using h
  have := ha _ (List.getElem_mem hl)
  rwa [at_byte s i h] at this
theorem digits_any (s : ByteArray) (w : World) :
    Calls Try.prog 28 #[.string s] w fun e w' => e = .returned (.bool (s.data.toList.all isDg && !s.data.toList.isEmpty)) ∧ Below w.heap.size w w' := by
  obtain ⟨A, hA⟩ : ∃ A : Bool, A = (s.data.toList.all isDg && !s.data.toList.isEmpty) := ⟨_, rfl⟩
  rw [← hA]
  replace hA := hid hA
  go_enter Try.func28, Try.ntmps28
  go_wp2
  go_loopw [] (fun wr => ∃ (pos : Nat), pos ≤ s.size ∧ (s.data.toList.take pos).all isDg = true ∧ wr.heap[w.heap.size]? = some (.stringIter s pos) ∧ Below w.heap.size w wr) (fun wr => s.size - wr.iterPos w.heap.size)
  case atStart => exact ⟨0, Nat.zero_le _, rfl, World.iter_heap w s 0, (Below.refl _ _).alloc (Nat.le_refl _) _⟩
  case round =>
    obtain ⟨pos, hp0, hall, hit, hbw⟩ := hrel
    by_cases hp : pos < s.size
    · have hb2 := Lib.below_iterAt hbw (k := w.heap.size) (Nat.le_refl _) s
      rcases rune_of s pos hp with ⟨hd, he⟩ | ⟨hd, he⟩
      · have hnx : ∀ ty, (Instr.next (.pointer (some ⟨w.heap.size, 0, none⟩)) true ty).run Try.prog wr = _ := fun ty => Lib.run_next_any_at wr w.heap.size s pos ty hit hp
        rw [he] at hnx
        have hit2 := Lib.iterAt_heap wr w.heap.size s pos (pos + 1) hit
        have hb3 := hb2 (pos + 1)
        have hd' := (isDg_iff _).1 hd
        have hk := take_byte s pos hp
        have hal : (s.data.toList.take (pos + 1)).all isDg = true := by rw [hk, List.all_append, hall]; simpa using hd
        obtain ⟨x, hx⟩ : ∃ x : Int, x = ((s[pos]'hp).toNat : Int) := ⟨_, rfl⟩
        have hx0 : 48 ≤ x := by omega
        have hx1 : x ≤ 57 := by omega
        simp only [← hx] at hnx
        clear hk hd hd' he hx hall
        go_wp2
        go_roundw
        case rel => exact ⟨pos + 1, by omega, hal, hit2, hb3⟩
        case measure =>
          simp only [World.iterPos, hit2, hit]
          omega
      · have hna := not_all s pos hp hd
        have hb3 := hb2 (pos + (Utf8.decode s pos).2)
        have hnx : ∀ ty, (Instr.next (.pointer (some ⟨w.heap.size, 0, none⟩)) true ty).run Try.prog wr = _ := fun ty => Lib.run_next_any_at wr w.heap.size s pos ty hit hp
        obtain ⟨x, hx⟩ : ∃ x : Int, x = ((Utf8.decode s pos).1 : Int) := ⟨_, rfl⟩
        obtain ⟨W2, hW2⟩ : ∃ W2, W2 = wr.iterAt w.heap.size s (pos + (Utf8.decode s pos).2) := ⟨_, rfl⟩
        rw [← hx, ← hW2] at hnx
        rw [← hW2] at hb3
        have hx1 : x < 48 ∨ 57 < x := by omega
        have Hna : Hid (A = false) := hid (by rw [hA.out, hna]; rfl)
        clear hna he hd hx hW2 hall
        rcases hx1 with hx1 | hx1
        · go_wp2
          go_ret
          exact ⟨ret_b Hna.out.symm, hb3⟩
        · have hx2 : ¬ x < 48 := by omega
          go_wp2
          go_ret
          exact ⟨ret_b Hna.out.symm, hb3⟩
    · have hnx : ∀ ty, (Instr.next (.pointer (some ⟨w.heap.size, 0, none⟩)) true ty).run Try.prog wr = _ := fun ty => Lib.run_next_end_at wr w.heap.size s pos ty hit hp
      have e : s.data.toList.take pos = s.data.toList := List.take_of_length_le (by show s.size ≤ _; omega)
      rw [e] at hall
      have Hna : Hid (A = !s.data.toList.isEmpty) := hid (by rw [hA.out, hall]; rfl)
      clear hall e
      go_wp2
      go_ret
      exact ⟨ret_b (by rw [Hna.out, ByteArray.toList_eq]), hbw⟩
theorem plain_any (s : ByteArray) (w : World) :
    Calls Try.prog 27 #[.string s] w fun e w' => e = .returned (.bool (pl s.data.toList)) ∧ Below w.heap.size w w' := by
  have cD := digits_any s w
  have hz : s.data.toList.length = s.size := by show _ = s.data.size; simp
  by_cases hA : (s.data.toList.all isDg && !s.data.toList.isEmpty) = true
  · have hA2 := hA
    rw [Bool.and_eq_true] at hA2
    have hpos : 0 < s.size := by
      cases h : s.data.toList with
      | nil => rw [h] at hA2; cases hA2.2
      | cons a r => rw [← hz, h]; simp
    have h0 : s.data.toList.getD 0 0 = s[0]'hpos := by
      rw [← at_byte s 0 hpos, List.getD_eq_getElem?_getD, List.getElem?_eq_getElem]; rfl
    rw [hA] at cD
    by_cases h1 : (s.size : Int) = 1
    · have fin : pl s.data.toList = true := by unfold pl; rw [hA, decide_eq_true (by omega)]; rfl
      rw [fin]
      clear fin hA hA2 h0 hz
      go_enter Try.func27, Try.ntmps27
      go_wp2_with (go_at_call 28; refine cD.mono ?_; rintro e w1 ⟨rfl, b1⟩)
      go_ret
      exact ⟨rfl, b1⟩
    · have fin : pl s.data.toList = !(s[0]'hpos == 48) := by unfold pl; rw [hA, decide_eq_false (by omega), h0]; rfl
      have e48 : (s[0]'hpos == 48) = (((s[0]'hpos).toNat : Int) == 48) := by
        rw [Bool.eq_iff_iff, beq_iff_eq, beq_iff_eq, ← UInt8.toNat_inj]
        show _ ↔ _
        have : (48 : UInt8).toNat = 48 := rfl
        omega
      rw [fin, e48]
      have h1' : ((s.size : Int) == 1) = false := by simpa using h1
      clear fin hA hA2 h0 hz e48
      go_enter Try.func27, Try.ntmps27
      go_wp2_with (go_at_call 28; refine cD.mono ?_; rintro e w1 ⟨rfl, b1⟩)
      go_ret
      exact ⟨rfl, b1⟩
  · have hA' : (s.data.toList.all isDg && !s.data.toList.isEmpty) = false := by simpa using hA
    have fin : pl s.data.toList = false := by unfold pl; rw [hA']; rfl
    rw [fin]
    rw [hA'] at cD
    clear fin hA hA'
    go_enter Try.func27, Try.ntmps27
    go_wp2_with (go_at_call 28; refine cD.mono ?_; rintro e w1 ⟨rfl, b1⟩)
    go_ret
    exact ⟨rfl, b1⟩
theorem pow_step (n : Int) (j k : Nat) (h : j < k) (hn : 0 ≤ n) : n * 10 ^ j * 10 = n * 10 ^ (j + 1) ∧ n * 10 ^ (j + 1) ≤ n * 10 ^ k ∧ 0 ≤ n * 10 ^ (j + 1) := by
  refine ⟨by rw [Int.mul_assoc, Int.pow_succ], Int.mul_le_mul_of_nonneg_left ?_ hn, Int.mul_nonneg hn (Int.pow_nonneg (by omega))⟩
  have : (10 : Nat) ^ (j + 1) ≤ 10 ^ k := Nat.pow_le_pow_right (by decide) h
  exact_mod_cast this
end Go.Proofs.Ytcigholifpmdjaa.Dc
