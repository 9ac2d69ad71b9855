/- What package date does: reading a day's text. -/
import Derived.Test.YtcigholifpmdjaaDate2
import Derived.Lib.OthersKept
import Derived.Laws.RangeAny
namespace Go.Proofs.Ytcigholifpmdjaa.Dt
open Go.RowKit Go.Sort P

/-- What 'number' answers. -/
def nv (l : List UInt8) : Int := if l.all isD then (val l : Int) else 0
theorem take_byte (s : ByteArray) (i : Nat) (h : i < s.size) : s.data.toList.take (i + 1) = s.data.toList.take i ++ [s[i]'h] := by
  have hl : i < s.data.toList.length := by simpa using h
  rw [← at_byte s i h, List.take_add_one, List.getElem?_eq_getElem hl]
  rfl
/-- What the range over a text hands over: a digit is that digit; any other byte gives no digit. -/
theorem rune_of (s : ByteArray) (i : Nat) (h : i < s.size) : (isD (s[i]'h) = true ∧ Utf8.decode s i = ((s[i]'h).toNat, 1)) ∨ (isD (s[i]'h) = false ∧ ((Utf8.decode s i).1 < 48 ∨ 57 < (Utf8.decode s i).1)) := by
  by_cases ha : (s[i]'h).toNat < 128
  · have e := decode_ascii s i h ha
    by_cases hd : isD (s[i]'h) = true
    · exact .inl ⟨hd, e⟩
    · refine .inr ⟨by simpa using hd, ?_⟩
      unfold isD at hd
      rw [decide_eq_true_eq] at hd
      rw [e]
      show (s[i]'h).toNat < 48 ∨ 57 < (s[i]'h).toNat
      omega
  · have e := (decode_high s i h (by omega)).1
    refine .inr ⟨?_, .inr (by omega)⟩
    unfold isD
    rw [decide_eq_false_iff_not]
    omega
theorem not_all (s : ByteArray) (i : Nat) (h : i < s.size) (hb : isD (s[i]'h) = false) : s.data.toList.all isD = false := by
  rw [Bool.eq_false_iff]
  intro k
  rw [List.all_eq_true] at k
  have hl : i < s.data.toList.length := by simpa using h
  have := k _ (List.getElem_mem hl)
  rw [at_byte s i h, hb] at this
  cases this
theorem number_any (s : ByteArray) (w : World) (hs : s.size ≤ 4) :
    Calls Try.prog 34 #[.string s] w fun e w' => e = .returned (.tuple #[.int .i64 (nv s.data.toList), .bool (s.data.toList.all isD)]) ∧ Below w.heap.size w w' := by
  obtain ⟨A, hA⟩ : ∃ A : Bool, A = s.data.toList.all isD := ⟨_, rfl⟩
  obtain ⟨V, hV⟩ : ∃ V : Int, V = nv s.data.toList := ⟨_, rfl⟩
  rw [← hA, ← hV]
  replace hA := hid hA
  replace hV := hid hV
  go_enter Try.func34, Try.ntmps34
  go_wp2
  go_loopw [4] (fun n wr => ∃ (pos : Nat) (v : Int), n = .int .i64 v ∧ v = (val (s.data.toList.take pos) : Int) ∧ val (s.data.toList.take pos) < 10 ^ pos ∧ pos ≤ s.size ∧ (s.data.toList.take pos).all isD = true ∧ wr.heap[w.heap.size]? = some (.stringIter s pos) ∧ Below w.heap.size w wr) (fun _ wr => s.size - wr.iterPos w.heap.size)
  case atStart => exact ⟨0, 0, rfl, rfl, by simp [val], Nat.zero_le _, rfl, World.iter_heap w s 0, (Below.refl _ _).alloc (Nat.le_refl _) _⟩
  case round =>
    obtain ⟨pos, v, rfl, hv, hlt, hp0, hall, hit, hbw⟩ := hrel
    have hp4 : 10 ^ pos ≤ 10 ^ 4 := Nat.pow_le_pow_right (by decide) (by omega)
    by_cases hp : pos < s.size
    · have hb2 := Lib.below_iterAt hbw (k := w.heap.size) (Nat.le_refl _) s
      rcases rune_of s pos hp with ⟨hd, he⟩ | ⟨hd, he⟩
      · have hnx : ∀ ty, (Instr.next (.pointer (some ⟨w.heap.size, 0, none⟩)) true ty).run Try.prog wr = _ := fun ty => Lib.run_next_any_at wr w.heap.size s pos ty hit hp
        rw [he] at hnx
        have hit2 := Lib.iterAt_heap wr w.heap.size s pos (pos + 1) hit
        have hb3 := hb2 (pos + 1)
        have hd' := hd
        unfold isD at hd'
        rw [decide_eq_true_eq] at hd'
        have hk := take_byte s pos hp
        have hsn : val (s.data.toList.take (pos + 1)) = 10 * val (s.data.toList.take pos) + ((s[pos]'hp).toNat - 48) := by rw [hk, val_snoc]
        have hal : (s.data.toList.take (pos + 1)).all isD = true := by rw [hk, List.all_append, hall]; simpa using hd
        obtain ⟨x, hx⟩ : ∃ x : Int, x = ((s[pos]'hp).toNat : Int) := ⟨_, rfl⟩
        have hx0 : 48 ≤ x := by omega
        have hx1 : x ≤ 57 := by omega
        have hv0 : 0 ≤ v := by omega
        have hv1 : v ≤ 10000 := by omega
        have hfin : 10 * v + (x - 48) = (val (s.data.toList.take (pos + 1)) : Int) := by omega
        have hl2 : val (s.data.toList.take (pos + 1)) < 10 ^ (pos + 1) := by rw [Nat.pow_succ]; omega
        simp only [← hx] at hnx
        have Hfin := hid hfin
        clear hfin hsn hk hd hd' he hx hv hlt hall hp4
        go_wp2
        go_roundw
        case rel => exact ⟨pos + 1, _, rfl, Hfin.out, hl2, by omega, hal, hit2, hb3⟩
        case measure =>
          simp only [World.iterPos, hit2, hit]
          omega
      · have hna := not_all s pos hp hd
        have hnv : nv s.data.toList = 0 := by unfold nv; rw [hna]; rfl
        have hr := decode_le s pos
        have hb3 := hb2 (pos + (Utf8.decode s pos).2)
        have hnx : ∀ ty, (Instr.next (.pointer (some ⟨w.heap.size, 0, none⟩)) true ty).run Try.prog wr = _ := fun ty => Lib.run_next_any_at wr w.heap.size s pos ty hit hp
        obtain ⟨x, hx⟩ : ∃ x : Int, x = ((Utf8.decode s pos).1 : Int) := ⟨_, rfl⟩
        obtain ⟨W2, hW2⟩ : ∃ W2, W2 = wr.iterAt w.heap.size s (pos + (Utf8.decode s pos).2) := ⟨_, rfl⟩
        rw [← hx, ← hW2] at hnx
        rw [← hW2] at hb3
        have hx1 : x < 48 ∨ 57 < x := by omega
        have Hna := hid hna
        have Hnv := hid hnv
        clear hna hnv he hd hx hW2 hr hv hlt hall
        rcases hx1 with hx1 | hx1
        · go_wp2
          go_ret2
          exact ⟨ret_2 (vi (Hnv.out.symm.trans hV.out.symm)) (congrArg Value.bool (Hna.out.symm.trans hA.out.symm)), hb3⟩
        · have hx2 : ¬ x < 48 := by omega
          go_wp2
          go_ret2
          exact ⟨ret_2 (vi (Hnv.out.symm.trans hV.out.symm)) (congrArg Value.bool (Hna.out.symm.trans hA.out.symm)), hb3⟩
    · have hnx : ∀ ty, (Instr.next (.pointer (some ⟨w.heap.size, 0, none⟩)) true ty).run Try.prog wr = _ := fun ty => Lib.run_next_end_at wr w.heap.size s pos ty hit hp
      have e : s.data.toList.take pos = s.data.toList := List.take_of_length_le (by show s.size ≤ _; omega)
      rw [e] at hall hv
      have hnv : nv s.data.toList = v := by unfold nv; rw [hall, hv]; rfl
      have Hna := hid hall
      have Hnv := hid hnv
      clear hall hnv hv hlt e
      go_wp2
      go_ret2
      exact ⟨ret_2 (vi (Hnv.out.symm.trans hV.out.symm)) (congrArg Value.bool (Hna.out.symm.trans hA.out.symm)), hbw⟩
theorem parts_len (s : ByteArray) (w : World) (h : s.size ≠ 10) :
    Calls Try.prog 33 #[.string s] w fun e w' => e = .returned (.tuple #[.agg #[.string ⟨#[]⟩, .string ⟨#[]⟩, .string ⟨#[]⟩], .bool false]) ∧ Below w.heap.size w w' := by
  have h1 : ((s.size : Int) != 10) = true := by simp; omega
  go_enter Try.func33, Try.ntmps33
  go_wp2
  exact bodyPost_ret (v := .tuple #[.agg #[.string ⟨#[]⟩, .string ⟨#[]⟩, .string ⟨#[]⟩], .bool false]) (by simp [results, Try.results33, go_sem]) rfl ⟨rfl, (Below.refl _ _).alloc (Nat.le_refl _) _⟩
theorem parts_four (s : ByteArray) (w : World) (h : s.size = 10) (h4 : ¬ ((s[4]'(by omega)).toNat : Int) = 45) :
    Calls Try.prog 33 #[.string s] w fun e w' => e = .returned (.tuple #[.agg #[.string ⟨#[]⟩, .string ⟨#[]⟩, .string ⟨#[]⟩], .bool false]) ∧ Below w.heap.size w w' := by
  have h1 : ((s.size : Int)) = 10 := by omega
  go_enter Try.func33, Try.ntmps33
  go_wp2
  exact bodyPost_ret (v := .tuple #[.agg #[.string ⟨#[]⟩, .string ⟨#[]⟩, .string ⟨#[]⟩], .bool false]) (by simp [results, Try.results33, go_sem]) rfl ⟨rfl, (Below.refl _ _).alloc (Nat.le_refl _) _⟩
theorem parts_seven (s : ByteArray) (w : World) (h : s.size = 10) (h4 : ((s[4]'(by omega)).toNat : Int) = 45) (h7 : ¬ ((s[7]'(by omega)).toNat : Int) = 45) :
    Calls Try.prog 33 #[.string s] w fun e w' => e = .returned (.tuple #[.agg #[.string ⟨#[]⟩, .string ⟨#[]⟩, .string ⟨#[]⟩], .bool false]) ∧ Below w.heap.size w w' := by
  have h1 : ((s.size : Int)) = 10 := by omega
  have h8 : (((s[7]'(by omega)).toNat : Int) != 45) = true := by simpa using h7
  go_enter Try.func33, Try.ntmps33
  go_wp2
  exact bodyPost_ret (v := .tuple #[.agg #[.string ⟨#[]⟩, .string ⟨#[]⟩, .string ⟨#[]⟩], .bool false]) (by simp [results, Try.results33, go_sem]) rfl ⟨rfl, (Below.refl _ _).alloc (Nat.le_refl _) _⟩
theorem parts_yes (s : ByteArray) (w : World) (h : s.size = 10) (h4 : ((s[4]'(by omega)).toNat : Int) = 45) (h7 : ((s[7]'(by omega)).toNat : Int) = 45) :
    Calls Try.prog 33 #[.string s] w fun e w' => e = .returned (.tuple #[.agg #[.string (s.extract 0 4), .string (s.extract 5 7), .string (s.extract 8 10)], .bool true]) ∧ Below w.heap.size w w' := by
  have h1 : ((s.size : Int)) = 10 := by omega
  have h8 : (((s[7]'(by omega)).toNat : Int) != 45) = false := by simpa using h7
  go_enter Try.func33, Try.ntmps33
  go_wp2
  go_region
  go_wp2
  exact bodyPost_ret (v := .tuple #[.agg #[.string (s.extract 0 4), .string (s.extract 5 7), .string (s.extract 8 10)], .bool true]) (by simp [results, Try.results33, go_sem]) rfl ⟨rfl, ((Below.refl _ _).alloc (Nat.le_refl _) _).drew⟩
end Go.Proofs.Ytcigholifpmdjaa.Dt
