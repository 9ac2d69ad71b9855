/- What package decimal does: number, and what a text is. -/
import Derived.Test.YtkjlcbjfnffpfaaDoorDecim
import Derived.Lib.AppendIntMem
namespace Go.Proofs.YtkjlcbjfnffpfaaDoor.Dc
open Go.RowKit Go.Sort P Ex

theorem stV_ge : ∀ (b a : List UInt8), b.all isDg = true → stV a ≤ stV (a ++ b)
  | b, a, h => by
    rw [stV_digits b a h]
    have : 0 < 10 ^ b.length := Nat.pow_pos (by decide)
    have h2 : stV a * 1 ≤ stV a * 10 ^ b.length := Nat.mul_le_mul_left _ (by omega)
    omega
theorem stV_take (l : List UInt8) (i : Nat) (h : l.all isDg = true) : stV (l.take i) ≤ stV l := by
  have h2 : (l.drop i).all isDg = true := by
    rw [List.all_eq_true] at *
    exact fun b hb => h b (List.mem_of_mem_drop hb)
  have := stV_ge (l.drop i) (l.take i) h2
  rwa [List.take_append_drop] at this
theorem number_any (s : ByteArray) (w : World) (hd : s.data.toList.all isDg = true) :
    Calls Tryd.prog 16 #[.string s] w fun e w' => e = .returned (.tuple #[.int .i64 (cut64 (stV s.data.toList)), .bool (ok64 (stV s.data.toList))]) ∧ Below w.heap.size w w' := by
  obtain ⟨V, hV⟩ : ∃ V : Int, V = (stV s.data.toList : Int) := ⟨_, rfl⟩
  rw [← hV]
  have H := hid hV
  clear hV
  go_enter Tryd.func16, Tryd.ntmps16
  go_wp2
  go_loopw [4] (fun n wr => ∃ (pos : Nat) (v : Int), n = .int .i64 v ∧ 0 ≤ v ∧ I64 v ∧ pos ≤ s.size ∧ Hid (v = (stV (s.data.toList.take pos) : Int)) ∧ wr.heap[w.heap.size]? = some (.stringIter s pos) ∧ Below w.heap.size w wr) (fun _ wr => s.size - wr.iterPos w.heap.size)
  case atStart => exact ⟨0, 0, rfl, Int.le_refl _, i64_0, Nat.zero_le _, hid rfl, World.iter_heap w s 0, (Below.refl _ _).alloc (Nat.le_refl _) _⟩
  case round =>
    obtain ⟨pos, v, rfl, hv0, hvI, hp0, hv, hit, hbw⟩ := hrel
    by_cases hp : pos < s.size
    · have hb2 := Lib.below_iterAt hbw (k := w.heap.size) (Nat.le_refl _) s
      have hdg := all_at s pos hp hd
      have he : Utf8.decode s pos = ((s[pos]'hp).toNat, 1) := by
        rcases rune_of s pos hp with ⟨_, he⟩ | ⟨hx, _⟩
        · exact he
        · rw [hdg] at hx; cases hx
      have hnx : ∀ ty, (Instr.next (.pointer (some ⟨w.heap.size, 0, none⟩)) true ty).run Tryd.prog wr = _ := fun ty => Lib.run_next_any_at wr w.heap.size s pos ty hit hp
      rw [he] at hnx
      have hit2 := Lib.iterAt_heap wr w.heap.size s pos (pos + 1) hit
      have hb3 := hb2 (pos + 1)
      have hd' := (isDg_iff _).1 hdg
      have hk := take_byte s pos hp
      have hsn : (stV (s.data.toList.take (pos + 1)) : Int) = v * 10 + (((s[pos]'hp).toNat : Int) - 48) := by
        rw [hk, stV_snoc, if_neg (isDg_no46 hdg), hv.out]; omega
      have hle := stV_take s.data.toList (pos + 1) hd
      obtain ⟨x, hx⟩ : ∃ x : Int, x = ((s[pos]'hp).toNat : Int) := ⟨_, rfl⟩
      have hx0 : 48 ≤ x := by omega
      have hx1 : x ≤ 57 := by omega
      rw [← hx] at hsn
      simp only [← hx] at hnx
      have hVle : v * 10 + (x - 48) ≤ V := by rw [H.out, ← hsn]; omega
      obtain ⟨W2, hW2⟩ : ∃ W2, W2 = wr.iterAt w.heap.size s (pos + 1) := ⟨_, rfl⟩
      rw [← hW2] at hb3 hit2 hnx
      have cT := tens_any v 1 W2 hv0 hvI (by decide)
      rw [show v * 10 ^ 1 = v * 10 by simp] at cT
      by_cases h1 : I64 (v * 10)
      · rw [cut64_t h1, ok64_t h1] at cT
        have cA := add_any (v * 10) (x - 48) W2 h1 (by unfold I64; omega)
        by_cases h2 : I64 (v * 10 + (x - 48))
        · rw [cut64_t h2, ok64_t h2] at cA
          obtain ⟨y, hy⟩ : ∃ y, y = v * 10 := ⟨_, rfl⟩
          obtain ⟨z, hz⟩ : ∃ z, z = y + (x - 48) := ⟨_, rfl⟩
          rw [← hy] at cT cA h2 hsn
          rw [← hz] at cA h2 hsn
          have hz0 : 0 ≤ z := by omega
          have hfin : Hid (z = (stV (s.data.toList.take (pos + 1)) : Int)) := hid hsn.symm
          have hW3 := hid hW2
          clear hsn hle hk hd' hdg he hx hVle h1 hy hz hW2
          go_wp2_with (first
            | (go_at_call 17; refine cT.mono ?_; rintro e w1 ⟨rfl, rfl⟩)
            | (go_at_call 25; refine cA.mono ?_; rintro e w1 ⟨rfl, rfl⟩))
          go_roundw
          case rel => exact ⟨pos + 1, z, rfl, hz0, h2, by omega, hfin, hit2, hb3⟩
          case measure =>
            simp only [World.iterPos, hit2, hit]
            omega
        · rw [cut64_f h2, ok64_f h2] at cA
          have hbig : ¬ I64 V := by unfold I64 at *; omega
          have E := hid (And.intro (cut64_f hbig) (ok64_f hbig))
          obtain ⟨y, hy⟩ : ∃ y, y = v * 10 := ⟨_, rfl⟩
          rw [← hy] at cT cA
          clear hsn hle hk hd' hdg he hx hVle h1 h2 hy hW2 hbig
          go_wp2_with (first
            | (go_at_call 17; refine cT.mono ?_; rintro e w1 ⟨rfl, rfl⟩)
            | (go_at_call 25; refine cA.mono ?_; rintro e w1 ⟨rfl, rfl⟩))
          go_ret2
          exact ⟨Ex.ret_2 E.out.1.symm E.out.2.symm, hb3⟩
      · rw [cut64_f h1, ok64_f h1] at cT
        have hbig : ¬ I64 V := by unfold I64 at *; omega
        have E := hid (And.intro (cut64_f hbig) (ok64_f hbig))
        clear hsn hle hk hd' hdg he hx hVle h1 hW2 hbig
        go_wp2_with (go_at_call 17; refine cT.mono ?_; rintro e w1 ⟨rfl, rfl⟩)
        go_ret2
        exact ⟨Ex.ret_2 E.out.1.symm E.out.2.symm, hb3⟩
    · have hnx : ∀ ty, (Instr.next (.pointer (some ⟨w.heap.size, 0, none⟩)) true ty).run Tryd.prog wr = _ := fun ty => Lib.run_next_end_at wr w.heap.size s pos ty hit hp
      have e : s.data.toList.take pos = s.data.toList := List.take_of_length_le (by show s.size ≤ _; omega)
      have hvV : v = V := by rw [hv.out, e, H.out]
      have E := hid (And.intro (cut64_t (hvV ▸ hvI)) (ok64_t (hvV ▸ hvI)))
      have H2 := hid hvV
      clear hvV e
      go_wp2
      go_ret2
      exact ⟨Ex.ret_2 (H2.out.trans E.out.1.symm) E.out.2.symm, hbw⟩

/-! The worlds: the library's number MaxLen is some number, its table of powers of ten stands as laid. -/
def Mx (w : World) : Prop := ∃ m, w.cell? ⟨0, 0, none⟩ = some (.int .i64 m)
def Tab (w : World) : Prop := Lib.TabIs Tryd.prog w "internal/strconv.uint64pow10" .u64 Lib.pow10Tab
def K (w : World) : Prop := Mx w ∧ Tab w
theorem K.later {w w' : World} (h : K w) (b : Below w.heap.size w w') : K w' := by
  obtain ⟨⟨m, hm⟩, T⟩ := h
  exact ⟨⟨m, (b.cell (World.block_lt_of_cell? w _ hm)).trans hm⟩, Lib.tabBelow_of_tabIs T _ b⟩
theorem mx_of {w : World} (h : w.ShapedOpen Tryd.prog) : Mx w := Tryd.laysM145.s1_3 w h
theorem cut_any (s : ByteArray) (w : World) (k : K w) (hs : s.size ≤ 1000000) :
    Calls Tryd.prog 15 #[.string s, .string ⟨#[46]⟩] w fun e w' => e = .returned (.tuple #[.string ⟨(Lib.cut s.data.toList [46]).1.toArray⟩, .string ⟨(Lib.cut s.data.toList [46]).2.1.toArray⟩, .bool (Lib.cut s.data.toList [46]).2.2]) ∧ Below w.heap.size w w' := by
  obtain ⟨⟨m, hm⟩, _⟩ := k
  refine (Any.strings_Cut { Tryd.laysM145 with } s ⟨#[46]⟩ m w (by omega) hm).mono ?_
  rintro e w' ⟨rfl, n, rfl⟩
  exact ⟨rfl, bel_drewN (Below.refl _ _) n⟩
theorem itoa_any (n : Int) (w : World) (h0 : 0 ≤ n) (h1 : I64 n) (T : Tab w) :
    Calls Tryd.prog 22 #[.int .i64 n] w fun e w' => e = .returned (.string ⟨(Lib.decDigits n.toNat).toArray⟩) ∧ Below w.heap.size w w' := by
  unfold I64 at h1
  refine (Any.strconv_Itoa Tryd.laysM171 n (by omega) (by omega) w T).mono ?_
  rintro e w' ⟨rfl, k, os, rfl⟩
  refine ⟨?_, Lib.below_grow _ _ (Nat.le_refl _) _ _⟩
  have e : n = (n.toNat : Int) := by omega
  rw [e, Lib.itoa_nonneg]
  rfl
theorem trim_any (s : ByteArray) (w : World) (hs : s.size ≤ 1000000) :
    Calls Tryd.prog 23 #[.string s, .string ⟨#[48]⟩] w fun e w' => e = .returned (.string ⟨(Lib.trimRightB s.data.toList 48).toArray⟩) ∧ Below w.heap.size w w' := by
  refine (Any.strings_TrimRight_one Tryd.lays162 s 48 (by decide) w (by omega)).mono ?_
  rintro e w' ⟨rfl, rfl⟩
  exact ⟨rfl, Below.refl _ _⟩
end Go.Proofs.YtkjlcbjfnffpfaaDoor.Dc
