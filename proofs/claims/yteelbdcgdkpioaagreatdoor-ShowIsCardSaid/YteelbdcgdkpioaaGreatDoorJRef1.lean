/- What package decimal does: number, and what a text is. -/
import Derived.Test.YteelbdcgdkpioaaGreatDoorJDecim
import Derived.Lib.AppendIntMem
import Derived.Test.YteelbdcgdkpioaaGreatDoorRows
import Derived.Test.YteelbdcgdkpioaaGreatDoorJLexQ
import Derived.Test.YteelbdcgdkpioaaGreatDoorJDatB
import Derived.WalkSmall
import Derived.WalkKit
import Derived.Lib.Strings
import Derived.Laws.Cover1
namespace Go.Proofs.YteelbdcgdkpioaaGreatDoor.Dc
open Go.RowKit Go.Sort P Ex

theorem stV_ge : ∀ (b a : List UInt8), b.all isDg = true → stV a ≤ stV (a ++ b)
  | b, a, h => by
    rw [stV_digits b a h]
    have : 0 < 10 ^ b.length := Nat.pow_pos (by decide)
    have h2 : stV a * 1 ≤ stV a * 10 ^ b.length := Nat.mul_le_mul_left _ (by omega)
    omega
theorem stV_take (l : List UInt8) (i : Nat) (h : l.all isDg = true) : stV (l.take i) ≤ stV l := by
  have h2 : (l.drop i).all isDg = true := by
    rw [List.all_eq_true] at *
    exact fun b hb => h b (List.mem_of_mem_drop hb)
  have := stV_ge (l.drop i) (l.take i) h2
  rwa [List.take_append_drop] at this
theorem number_any (s : ByteArray) (w : World) (hd : s.data.toList.all isDg = true) :
    Calls Tryz.prog 167 #[.string s] w fun e w' => e = .returned (.tuple #[.int .i64 (cut64 (stV s.data.toList)), .bool (ok64 (stV s.data.toList))]) ∧ Below w.heap.size w w' := by
  obtain ⟨V, hV⟩ : ∃ V : Int, V = (stV s.data.toList : Int) := ⟨_, rfl⟩
  rw [← hV]
  have H := hid hV
  clear hV
  go_enter Tryz.func167, Tryz.ntmps167
  go_wp2
  go_loopw [4] (fun n wr => ∃ (pos : Nat) (v : Int), n = .int .i64 v ∧ 0 ≤ v ∧ I64 v ∧ pos ≤ s.size ∧ Hid (v = (stV (s.data.toList.take pos) : Int)) ∧ wr.heap[w.heap.size]? = some (.stringIter s pos) ∧ Below w.heap.size w wr) (fun _ wr => s.size - wr.iterPos w.heap.size)
  case atStart => exact ⟨0, 0, rfl, Int.le_refl _, i64_0, Nat.zero_le _, hid rfl, World.iter_heap w s 0, (Below.refl _ _).alloc (Nat.le_refl _) _⟩
  case round =>
    obtain ⟨pos, v, rfl, hv0, hvI, hp0, hv, hit, hbw⟩ := hrel
    by_cases hp : pos < s.size
    · have hb2 := Lib.below_iterAt hbw (k := w.heap.size) (Nat.le_refl _) s
      have hdg := all_at s pos hp hd
      have he : Utf8.decode s pos = ((s[pos]'hp).toNat, 1) := by
        rcases rune_of s pos hp with ⟨_, he⟩ | ⟨hx, _⟩
        · exact he
        · rw [hdg] at hx; cases hx
      have hnx : ∀ ty, (Instr.next (.pointer (some ⟨w.heap.size, 0, none⟩)) true ty).run Tryz.prog wr = _ := fun ty => Lib.run_next_any_at wr w.heap.size s pos ty hit hp
      rw [he] at hnx
      have hit2 := Lib.iterAt_heap wr w.heap.size s pos (pos + 1) hit
      have hb3 := hb2 (pos + 1)
      have hd' := (isDg_iff _).1 hdg
      have hk := take_byte s pos hp
      have hsn : (stV (s.data.toList.take (pos + 1)) : Int) = v * 10 + (((s[pos]'hp).toNat : Int) - 48) := by
        rw [hk, stV_snoc, if_neg (isDg_no46 hdg), hv.out]; omega
      have hle := stV_take s.data.toList (pos + 1) hd
      obtain ⟨x, hx⟩ : ∃ x : Int, x = ((s[pos]'hp).toNat : Int) := ⟨_, rfl⟩
      have hx0 : 48 ≤ x := by omega
      have hx1 : x ≤ 57 := by omega
      rw [← hx] at hsn
      simp only [← hx] at hnx
      have hVle : v * 10 + (x - 48) ≤ V := by rw [H.out, ← hsn]; omega
      obtain ⟨W2, hW2⟩ : ∃ W2, W2 = wr.iterAt w.heap.size s (pos + 1) := ⟨_, rfl⟩
      rw [← hW2] at hb3 hit2 hnx
      have cT := tens_any v 1 W2 hv0 hvI (by decide)
      rw [show v * 10 ^ 1 = v * 10 by simp] at cT
      by_cases h1 : I64 (v * 10)
      · rw [cut64_t h1, ok64_t h1] at cT
        have cA := add_any (v * 10) (x - 48) W2 h1 (by unfold I64; omega)
        by_cases h2 : I64 (v * 10 + (x - 48))
        · rw [cut64_t h2, ok64_t h2] at cA
          obtain ⟨y, hy⟩ : ∃ y, y = v * 10 := ⟨_, rfl⟩
          obtain ⟨z, hz⟩ : ∃ z, z = y + (x - 48) := ⟨_, rfl⟩
          rw [← hy] at cT cA h2 hsn
          rw [← hz] at cA h2 hsn
          have hz0 : 0 ≤ z := by omega
          have hfin : Hid (z = (stV (s.data.toList.take (pos + 1)) : Int)) := hid hsn.symm
          have hW3 := hid hW2
          clear hsn hle hk hd' hdg he hx hVle h1 hy hz hW2
          go_wp2_with (first
            | (go_at_call 111; refine cT.mono ?_; rintro e w1 ⟨rfl, rfl⟩)
            | (go_at_call 173; refine cA.mono ?_; rintro e w1 ⟨rfl, rfl⟩))
          go_roundw
          case rel => exact ⟨pos + 1, z, rfl, hz0, h2, by omega, hfin, hit2, hb3⟩
          case measure =>
            simp only [World.iterPos, hit2, hit]
            omega
        · rw [cut64_f h2, ok64_f h2] at cA
          have hbig : ¬ I64 V := by unfold I64 at *; omega
          have E := hid (And.intro (cut64_f hbig) (ok64_f hbig))
          obtain ⟨y, hy⟩ : ∃ y, y = v * 10 := ⟨_, rfl⟩
          rw [← hy] at cT cA
          clear hsn hle hk hd' hdg he hx hVle h1 h2 hy hW2 hbig
          go_wp2_with (first
            | (go_at_call 111; refine cT.mono ?_; rintro e w1 ⟨rfl, rfl⟩)
            | (go_at_call 173; refine cA.mono ?_; rintro e w1 ⟨rfl, rfl⟩))
          go_ret2
          exact ⟨Ex.ret_2 E.out.1.symm E.out.2.symm, hb3⟩
      · rw [cut64_f h1, ok64_f h1] at cT
        have hbig : ¬ I64 V := by unfold I64 at *; omega
        have E := hid (And.intro (cut64_f hbig) (ok64_f hbig))
        clear hsn hle hk hd' hdg he hx hVle h1 hW2 hbig
        go_wp2_with (go_at_call 111; refine cT.mono ?_; rintro e w1 ⟨rfl, rfl⟩)
        go_ret2
        exact ⟨Ex.ret_2 E.out.1.symm E.out.2.symm, hb3⟩
    · have hnx : ∀ ty, (Instr.next (.pointer (some ⟨w.heap.size, 0, none⟩)) true ty).run Tryz.prog wr = _ := fun ty => Lib.run_next_end_at wr w.heap.size s pos ty hit hp
      have e : s.data.toList.take pos = s.data.toList := List.take_of_length_le (by show s.size ≤ _; omega)
      have hvV : v = V := by rw [hv.out, e, H.out]
      have E := hid (And.intro (cut64_t (hvV ▸ hvI)) (ok64_t (hvV ▸ hvI)))
      have H2 := hid hvV
      clear hvV e
      go_wp2
      go_ret2
      exact ⟨Ex.ret_2 (H2.out.trans E.out.1.symm) E.out.2.symm, hbw⟩

/-! The worlds: the library's number MaxLen is some number, its table of powers of ten stands as laid. -/
def Mx (w : World) : Prop := ∃ m, w.cell? ⟨3, 0, none⟩ = some (.int .i64 m)
def Tab (w : World) : Prop := Lib.TabIs Tryz.prog w "internal/strconv.uint64pow10" .u64 Lib.pow10Tab
def K (w : World) : Prop := Mx w ∧ Tab w
theorem K.later {w w' : World} (h : K w) (b : Below w.heap.size w w') : K w' := by
  obtain ⟨⟨m, hm⟩, T⟩ := h
  exact ⟨⟨m, (b.cell (World.block_lt_of_cell? w _ hm)).trans hm⟩, Lib.tabBelow_of_tabIs T _ b⟩
theorem mx_of {w : World} (h : w.ShapedOpen Tryz.prog) : Mx w := Tryz.laysM145.s1_3 w h
theorem Mx.later {w w' : World} (h : Mx w) (b : Below w.heap.size w w') : Mx w' := by
  obtain ⟨m, hm⟩ := h
  exact ⟨m, (b.cell (World.block_lt_of_cell? w _ hm)).trans hm⟩
theorem cut_mx (s : ByteArray) (w : World) (k : Mx w) (hs : s.size ≤ 1000000) :
    Calls Tryz.prog 116 #[.string s, .string ⟨#[46]⟩] w fun e w' => e = .returned (.tuple #[.string ⟨(Lib.cut s.data.toList [46]).1.toArray⟩, .string ⟨(Lib.cut s.data.toList [46]).2.1.toArray⟩, .bool (Lib.cut s.data.toList [46]).2.2]) ∧ Below w.heap.size w w' := by
  obtain ⟨m, hm⟩ := k
  refine (Any.strings_Cut { Tryz.laysM145 with } s ⟨#[46]⟩ m w (by omega) hm).mono ?_
  rintro e w' ⟨rfl, n, rfl⟩
  exact ⟨rfl, bel_drewN (Below.refl _ _) n⟩
theorem cut_any (s : ByteArray) (w : World) (k : K w) (hs : s.size ≤ 1000000) :
    Calls Tryz.prog 116 #[.string s, .string ⟨#[46]⟩] w fun e w' => e = .returned (.tuple #[.string ⟨(Lib.cut s.data.toList [46]).1.toArray⟩, .string ⟨(Lib.cut s.data.toList [46]).2.1.toArray⟩, .bool (Lib.cut s.data.toList [46]).2.2]) ∧ Below w.heap.size w w' := cut_mx s w k.1 hs
theorem itoa_any (n : Int) (w : World) (h0 : 0 ≤ n) (h1 : I64 n) (T : Tab w) :
    Calls Tryz.prog 27 #[.int .i64 n] w fun e w' => e = .returned (.string ⟨(Lib.decDigits n.toNat).toArray⟩) ∧ Below w.heap.size w w' := by
  unfold I64 at h1
  refine (Any.strconv_Itoa Tryz.laysM171 n (by omega) (by omega) w T).mono ?_
  rintro e w' ⟨rfl, k, os, rfl⟩
  refine ⟨?_, Lib.below_grow _ _ (Nat.le_refl _) _ _⟩
  have e : n = (n.toNat : Int) := by omega
  rw [e, Lib.itoa_nonneg]
  rfl
theorem trim_any (s : ByteArray) (w : World) (hs : s.size ≤ 1000000) :
    Calls Tryz.prog 112 #[.string s, .string ⟨#[48]⟩] w fun e w' => e = .returned (.string ⟨(Lib.trimRightB s.data.toList 48).toArray⟩) ∧ Below w.heap.size w w' := by
  refine (Any.strings_TrimRight_one Tryz.lays162 s 48 (by decide) w (by omega)).mono ?_
  rintro e w' ⟨rfl, rfl⟩
  exact ⟨rfl, Below.refl _ _⟩
end Go.Proofs.YteelbdcgdkpioaaGreatDoor.Dc
/- What package decimal does: Of, Parse. -/
namespace Go.Proofs.YteelbdcgdkpioaaGreatDoor.Dc
open Go.RowKit Go.Sort P Ex

/-- What Of answers, by what the cut answers. -/
def fc (a b : List UInt8) (found : Bool) : Int := if pl a then (if found then (if b.all isDg && !b.isEmpty then 2 else 0) else 1) else 0
theorem fm_fc (l : List UInt8) : (fm l : Int) = fc (Lib.cut l [46]).1 (Lib.cut l [46]).2.1 (Lib.cut l [46]).2.2 := by
  rcases cut_one l 46 with ⟨h, e⟩ | ⟨a, b, h, h2, e⟩
  · rw [e, fm_cut_no h]
    unfold fc
    cases pl l <;> rfl
  · rw [e, h, fm_cut_yes h2]
    unfold fc
    cases pl a <;> cases (b.all isDg && !b.isEmpty) <;> rfl
theorem mk_list (l : List UInt8) : (⟨l.toArray⟩ : ByteArray).data.toList = l := by simp
theorem of_mx (s : ByteArray) (w : World) (k : Mx w) (hs : s.size ≤ 1000000) :
    Calls Tryz.prog 85 #[.string s] w fun e w' => e = .returned (.int .i64 (fm s.data.toList)) ∧ Below w.heap.size w w' := by
  have cC := cut_mx s w k hs
  rw [fm_fc]
  generalize (Lib.cut s.data.toList [46]).1 = a at *
  generalize (Lib.cut s.data.toList [46]).2.1 = b at *
  generalize (Lib.cut s.data.toList [46]).2.2 = f at *
  have cP := fun W => plain_any ⟨a.toArray⟩ W
  have cD := fun W => digits_any ⟨b.toArray⟩ W
  rw [mk_list] at cP cD
  unfold fc
  generalize pl a = p at *
  generalize (b.all isDg && !b.isEmpty) = d at *
  rcases Bool.eq_false_or_eq_true p with rfl | rfl
  · rcases Bool.eq_false_or_eq_true f with rfl | rfl
    · rcases Bool.eq_false_or_eq_true d with rfl | rfl
      all_goals
        go_enter Tryz.func85, Tryz.ntmps85
        go_wp2_with (first
          | (go_at_call 116; refine cC.mono ?_; rintro e w1 ⟨rfl, b1⟩)
          | (go_at_call 117; refine (cP _).mono ?_; rintro e w2 ⟨rfl, b2⟩; have B2 := b1.trans (b2.mono b1.size))
          | (go_at_call 118; refine (cD _).mono ?_; rintro e w3 ⟨rfl, b3⟩; have B3 := B2.trans (b3.mono B2.size)))
        go_ret
        exact ⟨rfl, B3⟩
    · go_enter Tryz.func85, Tryz.ntmps85
      go_wp2_with (first
        | (go_at_call 116; refine cC.mono ?_; rintro e w1 ⟨rfl, b1⟩)
        | (go_at_call 117; refine (cP _).mono ?_; rintro e w2 ⟨rfl, b2⟩; have B2 := b1.trans (b2.mono b1.size)))
      go_ret
      exact ⟨rfl, B2⟩
  · go_enter Tryz.func85, Tryz.ntmps85
    go_wp2_with (first
      | (go_at_call 116; refine cC.mono ?_; rintro e w1 ⟨rfl, b1⟩)
      | (go_at_call 117; refine (cP _).mono ?_; rintro e w2 ⟨rfl, b2⟩; have B2 := b1.trans (b2.mono b1.size)))
    go_ret
    exact ⟨rfl, B2⟩
theorem of_any (s : ByteArray) (w : World) (k : K w) (hs : s.size ≤ 1000000) :
    Calls Tryz.prog 85 #[.string s] w fun e w' => e = .returned (.int .i64 (fm s.data.toList)) ∧ Below w.heap.size w w' := of_mx s w k.1 hs
/-- What a number's cut tells of what it comes to. -/
theorem cut_tells {l : List UInt8} (h : fm l ≠ 0) : ∃ a b f, Lib.cut l [46] = (a, b, f) ∧ (a ++ b).all isDg = true ∧ stV (a ++ b) = stV l ∧ max (stB l) 0 = b.length ∧ a.length + b.length ≤ l.length := by
  rcases cut_one l 46 with ⟨h1, e⟩ | ⟨a, b, h1, h2, e⟩
  · rw [fm_cut_no h1] at h
    have hp : pl l = true := by
      cases k : pl l
      · rw [k] at h; exact absurd rfl h
      · rfl
    obtain ⟨x, _, _⟩ := pl_oddHead hp
    refine ⟨l, [], false, e, by rwa [List.append_nil], by rw [List.append_nil], ?_, by simp⟩
    rw [stB_plain x]; rfl
  · rw [h1, fm_cut_yes h2] at h
    have hp : (pl a && (b.all isDg && !b.isEmpty)) = true := by
      cases k : (pl a && (b.all isDg && !b.isEmpty))
      · rw [k] at h; exact absurd rfl h
      · rfl
    rw [Bool.and_eq_true, Bool.and_eq_true] at hp
    obtain ⟨x, _, _⟩ := pl_oddHead hp.1
    refine ⟨a, b, true, e, by rw [List.all_append, x, hp.2.1]; rfl, by rw [h1, stV_cut hp.2.1], ?_, by rw [h1]; simp⟩
    rw [h1, stB_cut hp.2.1]; omega
theorem pw_bad {l : List UInt8} {p : Int} (most : Int) (h : pBad l p = true) : pN l p most = 0 ∧ pW l p most = 1 := by
  unfold pN pW; rw [h]; exact ⟨rfl, rfl⟩
theorem pw_great {l : List UInt8} {p most : Int} (h : pBad l p = false) (g : pGreat l p most = true) : pN l p most = 0 ∧ pW l p most = 2 := by
  unfold pN pW; rw [h, g]; exact ⟨rfl, rfl⟩
theorem pw_fine {l : List UInt8} {p most : Int} (h : pBad l p = false) (g : pGreat l p most = false) : pN l p most = pV l p ∧ pW l p most = 0 := by
  unfold pN pW; rw [h, g]; exact ⟨rfl, rfl⟩
theorem big_pow {v : Int} {j : Nat} (hv0 : 0 ≤ v) (h : ¬ I64 v) : ¬ I64 (v * 10 ^ j) := by
  have hp : (0 : Int) < 10 ^ j := Int.pow_pos (by decide)
  obtain ⟨y, hy⟩ : ∃ y : Int, y = 10 ^ j := ⟨_, rfl⟩
  rw [← hy] at hp ⊢
  have h5 : v * 1 ≤ v * y := Int.mul_le_mul_of_nonneg_left (by omega) hv0
  obtain ⟨z, hz⟩ : ∃ z : Int, z = v * y := ⟨_, rfl⟩
  rw [← hz] at h5 ⊢
  clear hz hy
  unfold I64 at *
  omega
set_option maxHeartbeats 1000000 in
theorem parse_mx (s : ByteArray) (places most : Int) (w : World) (k : Mx w) (hs : s.size ≤ 1000000) :
    Calls Tryz.prog 159 #[.string s, .int .i64 places, .int .i64 most] w fun e w' =>
      e = .returned (.tuple #[.int .i64 (pN s.data.toList places most), .int .i64 (pW s.data.toList places most)]) ∧ Below w.heap.size w w' := by
  have cG := fun W => good_any places W
  by_cases hg : 0 ≤ places ∧ places ≤ 9
  · rw [decide_eq_true hg] at cG
    have cO := of_mx s w k hs
    by_cases hf : fm s.data.toList = 0
    · have hb : pBad s.data.toList places = true := by unfold pBad; exact decide_eq_true (.inl hf)
      obtain ⟨e1, e2⟩ := pw_bad most hb
      rw [e1, e2]
      rw [hf] at cO
      clear hb e1 e2 hf hg
      go_enter Tryz.func159, Tryz.ntmps159
      go_wp2_with (first
        | (go_at_call 110; refine (cG _).mono ?_; rintro e w1 ⟨rfl, rfl⟩)
        | (go_at_call 85; refine cO.mono ?_; rintro e w1 ⟨rfl, b1⟩))
      go_ret2
      exact ⟨rfl, b1⟩
    · obtain ⟨a, b, f, hc, hd, hv, hB, hl⟩ := cut_tells hf
      have cC := fun W kW => cut_mx s W kW hs
      rw [hc] at cC
      obtain ⟨F, hF⟩ : ∃ F : Int, F = (fm s.data.toList : Int) := ⟨_, rfl⟩
      rw [← hF] at cO
      have hF0 : (F == 0) = false := by simp; omega
      obtain ⟨bS, hbS⟩ : ∃ bS : ByteArray, bS = ⟨b.toArray⟩ := ⟨_, rfl⟩
      obtain ⟨aS, haS⟩ : ∃ aS : ByteArray, aS = ⟨a.toArray⟩ := ⟨_, rfl⟩
      have hbl : bS.size = b.length := by rw [hbS, ba_size]
      have hal : aS.size = a.length := by rw [haS, ba_size]
      have hll : s.data.toList.length = s.size := by show _ = s.data.size; simp
      simp only [← hbS, ← haS] at cC
      by_cases hp : places < (bS.size : Int)
      · have hb : pBad s.data.toList places = true := by unfold pBad; refine decide_eq_true (.inr (.inr (.inr ?_))); omega
        obtain ⟨e1, e2⟩ := pw_bad most hb
        rw [e1, e2]
        clear hb e1 e2 hf hg hF hc hd hv hB hl hbS haS hbl hal hll
        go_enter Tryz.func159, Tryz.ntmps159
        go_wp2_with (first
          | (go_at_call 110; refine (cG _).mono ?_; rintro e w1 ⟨rfl, rfl⟩)
          | (go_at_call 85; refine cO.mono ?_; rintro e w1 ⟨rfl, b1⟩; have k1 := k.later b1)
          | (go_at_call 116; refine (cC _ k1).mono ?_; rintro e w2 ⟨rfl, b2⟩; have B2 := b1.trans (b2.mono b1.size)))
        go_ret2
        exact ⟨rfl, B2⟩
      · have hb : pBad s.data.toList places = false := by unfold pBad; refine decide_eq_false ?_; rintro (q | q | q | q) <;> omega
        obtain ⟨kk, hkk⟩ : ∃ kk : Nat, kk = pK s.data.toList places := ⟨_, rfl⟩
        have hk1 : places - (bS.size : Int) = (kk : Int) := by rw [hkk]; unfold pK; omega
        have hk9 : kk ≤ 9 := by omega
        have hwk : wrap64 (kk : Int) = kk := wrap_in (by unfold I64; omega)
        have cN := fun W => number_any (aS ++ bS) W (by rw [haS, hbS, ba_append, mk_list]; exact hd)
        have e0 : (aS ++ bS).data.toList = a ++ b := by rw [haS, hbS, ba_append, mk_list]
        rw [e0, hv] at cN
        have hV : pV s.data.toList places = (stV s.data.toList : Int) * 10 ^ kk := by unfold pV; rw [hkk]
        obtain ⟨v, hvv⟩ : ∃ v : Int, v = (stV s.data.toList : Int) := ⟨_, rfl⟩
        rw [← hvv] at cN hV
        have hv0 : 0 ≤ v := by omega
        have hn : ¬ 9223372036854775807 < aS.size + bS.size := by omega
        by_cases h1 : I64 v
        · rw [cut64_t h1, ok64_t h1] at cN
          have cT := fun W => tens_any v kk W hv0 h1 hk9
          rw [← hV] at cT
          obtain ⟨V, hVV⟩ : ∃ V : Int, V = pV s.data.toList places := ⟨_, rfl⟩
          rw [← hVV] at cT
          have hG : pGreat s.data.toList places most = (!ok64 V || decide (most < V)) := by unfold pGreat; rw [hVV]
          by_cases h2 : I64 V
          · rw [cut64_t h2, ok64_t h2] at cT
            rw [ok64_t h2] at hG
            by_cases h3 : most < V
            · rw [decide_eq_true h3] at hG
              obtain ⟨e1, e2⟩ := pw_great hb hG
              rw [e1, e2]
              clear hb e1 e2 hf hg hF hc hd hv hB hl hbS haS hbl hal hll hV hVV hG e0 hkk hvv hv0 h1 h2 hk9
              go_enter Tryz.func159, Tryz.ntmps159
              go_wp2_with (first
                | (go_at_call 110; refine (cG _).mono ?_; rintro e w1 ⟨rfl, rfl⟩)
                | (go_at_call 85; refine cO.mono ?_; rintro e w1 ⟨rfl, b1⟩; have k1 := k.later b1)
                | (go_at_call 116; refine (cC _ k1).mono ?_; rintro e w2 ⟨rfl, b2⟩; have B2 := b1.trans (b2.mono b1.size))
                | (go_at_call 167; refine (cN _).mono ?_; rintro e w3 ⟨rfl, b3⟩; have B3 := B2.trans (b3.mono B2.size))
                | (go_at_call 111; rw [hwk]; refine (cT _).mono ?_; rintro e w4 ⟨rfl, rfl⟩))
              go_ret2
              exact ⟨rfl, B3⟩
            · rw [decide_eq_false h3] at hG
              obtain ⟨e1, e2⟩ := pw_fine hb hG
              rw [e1, e2, ← hVV]
              clear hb e1 e2 hf hg hF hc hd hv hB hl hbS haS hbl hal hll hV hVV hG e0 hkk hvv hv0 h1 h2 hk9
              go_enter Tryz.func159, Tryz.ntmps159
              go_wp2_with (first
                | (go_at_call 110; refine (cG _).mono ?_; rintro e w1 ⟨rfl, rfl⟩)
                | (go_at_call 85; refine cO.mono ?_; rintro e w1 ⟨rfl, b1⟩; have k1 := k.later b1)
                | (go_at_call 116; refine (cC _ k1).mono ?_; rintro e w2 ⟨rfl, b2⟩; have B2 := b1.trans (b2.mono b1.size))
                | (go_at_call 167; refine (cN _).mono ?_; rintro e w3 ⟨rfl, b3⟩; have B3 := B2.trans (b3.mono B2.size))
                | (go_at_call 111; rw [hwk]; refine (cT _).mono ?_; rintro e w4 ⟨rfl, rfl⟩))
              go_ret2
              exact ⟨rfl, B3⟩
          · rw [cut64_f h2, ok64_f h2] at cT
            rw [ok64_f h2] at hG
            obtain ⟨e1, e2⟩ := pw_great hb hG
            rw [e1, e2]
            clear hb e1 e2 hf hg hF hc hd hv hB hl hbS haS hbl hal hll hV hVV hG e0 hkk hvv hv0 h1 h2 hk9
            go_enter Tryz.func159, Tryz.ntmps159
            go_wp2_with (first
              | (go_at_call 110; refine (cG _).mono ?_; rintro e w1 ⟨rfl, rfl⟩)
              | (go_at_call 85; refine cO.mono ?_; rintro e w1 ⟨rfl, b1⟩; have k1 := k.later b1)
              | (go_at_call 116; refine (cC _ k1).mono ?_; rintro e w2 ⟨rfl, b2⟩; have B2 := b1.trans (b2.mono b1.size))
              | (go_at_call 167; refine (cN _).mono ?_; rintro e w3 ⟨rfl, b3⟩; have B3 := B2.trans (b3.mono B2.size))
              | (go_at_call 111; rw [hwk]; refine (cT _).mono ?_; rintro e w4 ⟨rfl, rfl⟩))
            go_ret2
            exact ⟨rfl, B3⟩
        · rw [cut64_f h1, ok64_f h1] at cN
          have hbig : ¬ I64 (pV s.data.toList places) := hV ▸ big_pow hv0 h1
          have hG : pGreat s.data.toList places most = true := by unfold pGreat; rw [ok64_f hbig]; rfl
          obtain ⟨e1, e2⟩ := pw_great hb hG
          rw [e1, e2]
          clear hb e1 e2 hf hg hF hc hd hv hB hl hbS haS hbl hal hll hV hG e0 hkk hvv hv0 h1 hk9 hbig
          go_enter Tryz.func159, Tryz.ntmps159
          go_wp2_with (first
            | (go_at_call 110; refine (cG _).mono ?_; rintro e w1 ⟨rfl, rfl⟩)
            | (go_at_call 85; refine cO.mono ?_; rintro e w1 ⟨rfl, b1⟩; have k1 := k.later b1)
            | (go_at_call 116; refine (cC _ k1).mono ?_; rintro e w2 ⟨rfl, b2⟩; have B2 := b1.trans (b2.mono b1.size))
            | (go_at_call 167; refine (cN _).mono ?_; rintro e w3 ⟨rfl, b3⟩; have B3 := B2.trans (b3.mono B2.size)))
          go_ret2
          exact ⟨rfl, B3⟩
  · have hb : pBad s.data.toList places = true := by unfold pBad; refine decide_eq_true ?_; omega
    obtain ⟨e1, e2⟩ := pw_bad most hb
    rw [e1, e2]
    rw [decide_eq_false hg] at cG
    clear hb e1 e2 hg
    go_enter Tryz.func159, Tryz.ntmps159
    go_wp2_with (go_at_call 110; refine (cG _).mono ?_; rintro e w1 ⟨rfl, rfl⟩)
    go_ret2
    exact ⟨rfl, Below.refl _ _⟩
theorem parse_any (s : ByteArray) (places most : Int) (w : World) (k : K w) (hs : s.size ≤ 1000000) :
    Calls Tryz.prog 159 #[.string s, .int .i64 places, .int .i64 most] w fun e w' =>
      e = .returned (.tuple #[.int .i64 (pN s.data.toList places most), .int .i64 (pW s.data.toList places most)]) ∧ Below w.heap.size w w' := parse_mx s places most w k.1 hs
end Go.Proofs.YteelbdcgdkpioaaGreatDoor.Dc
/- What the document's answers for layer 4 (poundageref04) come to: digit, Of. -/
namespace Go.Proofs.YteelbdcgdkpioaaGreatDoor.R4
open Go.RowKit P

/-- A letter that is a digit, as a number. -/
def dgI (x : Int) : Bool := decide (48 ≤ x ∧ x ≤ 57)
theorem dgI_of (b : UInt8) : dgI ((b.toNat : Nat) : Int) = isDg b := by unfold dgI isDg; rw [decide_eq_decide]; omega
theorem digit_any (x : Int) (w : World) : Calls Tryz.prog 95 #[.int .u8 x] w fun e w' => e = .returned (.bool (dgI x)) ∧ w' = w := by
  rcases Decidable.em (48 ≤ x) with h | h
  · have b : decide (48 ≤ x) = true := decide_eq_true h
    have e : dgI x = decide (x ≤ 57) := by unfold dgI; rw [decide_eq_decide]; omega
    have E := hid e
    clear e
    go_enter Tryz.func95, Tryz.ntmps95
    go_wp2
    go_ret
    exact ⟨ret_b E.out.symm, rfl⟩
  · have b : decide (48 ≤ x) = false := decide_eq_false h
    have e : dgI x = false := by unfold dgI; rw [decide_eq_false_iff_not]; omega
    have E := hid e
    clear e
    go_enter Tryz.func95, Tryz.ntmps95
    go_wp2
    go_ret
    exact ⟨ret_b E.out.symm, rfl⟩
theorem byte_at (s : ByteArray) (i : Int) (h0 : 0 ≤ i) (h1 : i < s.size) (W : World) : (Instr.index 9 (.string s) (.int .i64 i)).run Tryz.prog W = .ok (.int .u8 ((s.data.toList.getD i.toNat 0).toNat : Int)) W := by
  have hl : i.toNat < s.data.toList.length := by show _ < s.size; omega
  have hb : s.data.toList[i.toNat]'hl = s[i.toNat]'(by omega) := by rw [Array.getElem_toList]; rfl
  rw [run_index_string W 9 s .i64 i Tryz.underlying9, dif_pos ⟨h0, h1⟩, List.getD_eq_getElem?_getD, List.getElem?_eq_getElem hl, hb, Option.getD_some]
set_option maxHeartbeats 2000000 in
theorem of_any (s : ByteArray) (w : World) (hs : s.size ≤ 9223372036854775807) : Calls Tryz.prog 69 #[.string s] w fun e w' => e = .returned (.int .i64 (fm s.data.toList)) ∧ w' = w := by
  obtain ⟨l, hl⟩ : ∃ l, l = s.data.toList := ⟨_, rfl⟩
  have hbyte := byte_at s
  have hz : l.length = s.size := by rw [hl]; simp
  have htl : s.toList = l := by rw [Lib.toList_data, hl]
  rw [← hl]
  rw [← hl] at hbyte
  clear hl
  by_cases h0 : l.length = 0
  · have hn : l = [] := List.length_eq_zero_iff.1 h0
    subst hn
    go_enter Tryz.func69, Tryz.ntmps69
    go_wp2
    go_ret
    exact ⟨ret_i (by rw [fm_empty]; rfl), rfl⟩
  · have x0 := hbyte 0 (by omega) (by omega)
    have hne : (l == []) = false := by
      rw [beq_eq_false_iff_ne]
      rintro rfl
      exact h0 rfl
    cases hd : isDg (l.getD 0 0)
    · have hf := hid (fm_first hd)
      rw [← dgI_of] at hd
      obtain ⟨x, hx⟩ : ∃ x : Int, x = ((l.getD 0 0).toNat : Int) := ⟨_, rfl⟩
      rw [← hx] at hd
      have x0' : ∀ W, (Instr.index 9 (.string s) (.int .i64 0)).run Tryz.prog W = .ok (.int .u8 x) W := fun W => by rw [hx]; exact x0 W
      clear x0 hx
      go_enter Tryz.func69, Tryz.ntmps69
      go_wp2_with (go_at_call 95; refine (digit_any _ _).mono ?_; rintro e w' ⟨rfl, h'⟩; rw [h'])
      go_ret
      exact ⟨ret_i (by rw [hf.out]; rfl), rfl⟩
    · have hd0 := hd
      rw [← dgI_of] at hd
      obtain ⟨x, hx⟩ : ∃ x : Int, x = ((l.getD 0 0).toNat : Int) := ⟨_, rfl⟩
      rw [← hx] at hd
      have x0' : ∀ W, (Instr.index 9 (.string s) (.int .i64 0)).run Tryz.prog W = .ok (.int .u8 x) W := fun W => by rw [hx]; exact x0 W
      have HX := hid hx
      have Hd0 := hid hd0
      clear x0 hx hd0
      go_enter Tryz.func69, Tryz.ntmps69
      go_wp2_with (go_at_call 95; refine (digit_any _ _).mono ?_; rintro e w' ⟨rfl, h'⟩; rw [h'])
      go_loop [3, 4] (fun p i => ∃ p' i' : Int, p = .int .i64 p' ∧ i = .int .i64 i' ∧ 0 ≤ i' ∧ 0 ≤ p' ∧ p' ≤ 1 ∧ i' ≤ s.size ∧ Hid (Seen l i'.toNat p'.toNat)) (fun _ i => ((s.size : Int) - intOf i).toNat)
      case atStart => exact ⟨0, 0, rfl, rfl, by omega, by omega, by omega, by omega, hid (Seen.start (by omega))⟩
      case round =>
        obtain ⟨p', i', rfl, rfl, i0, p0, p1, i1, S⟩ := hrel
        by_cases hi : i' < s.size
        · have hil : i'.toNat < l.length := by omega
          have hb := hbyte i' i0 hi
          have e1 : (i' + 1).toNat = i'.toNat + 1 := by omega
          have e2 : (p' + 1).toNat = p'.toNat + 1 := by omega
          have hlast : i' + 1 = s.size ↔ i'.toNat + 1 = l.length := by omega
          have hdg := dgI_of (l.getD i'.toNat 0)
          have h46 : ((l.getD i'.toNat 0).toNat : Int) = 46 ↔ l.getD i'.toNat 0 = 46 := by
            constructor
            · intro h; exact UInt8.toNat_inj.1 (by show _ = 46; omega)
            · intro h; rw [h]; rfl
          have S' := S.out
          have bad : evenBody l = false → Hid (fm l = 0) := fun h => hid (fm_body h)
          have f2 := fun a b => bad (S'.two hil a b)
          have f3 := fun a b => bad (ends_point (l := l) (i := i'.toNat) a b)
          have f4 := fun a b => bad (bad_letter hil a b)
          have g1 : isDg (l.getD i'.toNat 0) = true → Hid (Seen l (i' + 1).toNat p'.toNat) := fun h => hid (by rw [e1]; exact S'.digit hil h)
          have g2 : l.getD i'.toNat 0 = 46 → p'.toNat = 0 → i'.toNat + 1 ≠ l.length → Hid (Seen l (i' + 1).toNat (p' + 1).toNat) := fun a b c => hid (by rw [e1, e2]; exact S'.point hil a b c)
          obtain ⟨b, hb'⟩ : ∃ b, b = l.getD i'.toNat 0 := ⟨_, rfl⟩
          rw [← hb'] at hdg h46 f2 f3 f4 g1 g2
          simp only [← hb'] at hb
          obtain ⟨z, hz'⟩ : ∃ z : Int, z = (b.toNat : Int) := ⟨_, rfl⟩
          rw [← hz'] at hdg h46
          simp only [← hz'] at hb
          clear S' S e1 e2 bad hb' hz' hbyte
          by_cases hp : z = 46
          · have hp' := h46.1 hp
            have b1 : (z == 46) = true := by rw [hp]; rfl
            by_cases p2 : p' = 1
            · have hG := f2 hp' (by rw [p2]; rfl)
              clear f2 f3 f4 g1 g2 h46 hdg hlast
              subst p2
              go_wp2
              go_ret
              exact ⟨ret_i (by rw [hG.out]; rfl), rfl⟩
            · obtain rfl : p' = 0 := by omega
              by_cases hl : i' + 1 = s.size
              · have hG := f3 (hlast.1 hl) hp'
                have b2 : (i' == (s.size : Int) - 1) = true := by simp; omega
                clear f2 f3 f4 g1 g2 h46 hdg hlast
                go_wp2
                go_ret
                exact ⟨ret_i (by rw [hG.out]; rfl), rfl⟩
              · have hS := g2 hp' rfl (fun k => hl (hlast.2 k))
                have b2 : (i' == (s.size : Int) - 1) = false := by simp; omega
                clear f2 f3 f4 g1 g2 h46 hdg hlast
                go_wp2
                go_round
                case rel => exact ⟨_, i' + 1, rfl, rfl, by omega, by omega, by omega, by omega, hS⟩
                case measure => simp [intOf]; omega
          · have b1 : (z == 46) = false := by simpa using hp
            cases hD : isDg b
            · have hG := f4 hD (fun k => hp (h46.2 k))
              rw [hD] at hdg
              clear f2 f3 f4 g1 g2 h46 hlast
              go_wp2_with (go_at_call 95; refine (digit_any _ _).mono ?_; rintro e w' ⟨rfl, h'⟩; rw [h'])
              go_ret
              exact ⟨ret_i (by rw [hG.out]; rfl), rfl⟩
            · have hS := g1 hD
              rw [hD] at hdg
              clear f2 f3 f4 g1 g2 h46 hlast
              go_wp2_with (go_at_call 95; refine (digit_any _ _).mono ?_; rintro e w' ⟨rfl, h'⟩; rw [h'])
              go_round
              case rel => exact ⟨p', i' + 1, rfl, rfl, by omega, by omega, by omega, by omega, hS⟩
              case measure => simp [intOf]; omega
        · obtain rfl : i' = s.size := by omega
          have hS : Seen l l.length p'.toNat := by
            have := S.out
            rwa [show ((s.size : Int)).toNat = l.length by omega] at this
          obtain ⟨he, hc⟩ := hS.done
          have yes : oddHead l = false → Hid (fm l = 1 + p'.toNat) := fun h => hid (by rw [fm_is Hd0.out he h, hc])
          have no : oddHead l = true → Hid (fm l = 0) := fun h => hid (fm_head h)
          have c48 : (l.getD 0 0 == 48) = decide (x = 48) := by
            rw [Bool.eq_iff_iff, beq_iff_eq, decide_eq_true_eq, HX.out]
            constructor
            · intro h; rw [h]; rfl
            · intro h; exact UInt8.toNat_inj.1 (by show _ = 48; omega)
          have hp' : (1 : Int) + p' = ((1 + p'.toNat : Nat) : Int) := by omega
          by_cases hx : x = 48
          · by_cases hl1 : (1 : Int) < s.size
            · have hy := hbyte 1 (by omega) hl1
              have c46 : (l.getD 1 0 == 46) = decide (((l.getD 1 0).toNat : Int) = 46) := by
                rw [Bool.eq_iff_iff, beq_iff_eq, decide_eq_true_eq]
                constructor
                · intro h; rw [h]; rfl
                · intro h; exact UInt8.toNat_inj.1 (by show _ = 46; omega)
              obtain ⟨y, hy'⟩ : ∃ y : Int, y = ((l.getD 1 0).toNat : Int) := ⟨_, rfl⟩
              rw [← hy'] at c46
              have hy2 : ∀ W, (Instr.index 9 (.string s) (.int .i64 1)).run Tryz.prog W = .ok (.int .u8 y) W := fun W => by rw [hy']; exact hy W
              have b1 : (x == 48) = true := by simpa using hx
              have hll : decide (1 < l.length) = true := decide_eq_true (by omega)
              clear hy hy' hbyte S hS
              by_cases h46 : y = 46
              · have hG := yes (by unfold oddHead; rw [c48, hll, c46, decide_eq_true h46]; simp)
                have b2 : (y != 46) = false := by simpa using h46
                clear yes no c48 c46 HX Hd0 hd he hc
                go_wp2
                go_ret
                exact ⟨ret_i (by rw [hG.out]; omega), rfl⟩
              · have hG := no (by unfold oddHead; rw [c48, hll, c46, decide_eq_false h46, decide_eq_true hx]; rfl)
                have b2 : (y != 46) = true := by simpa using h46
                clear yes no c48 c46 HX Hd0 hd he hc
                go_wp2
                go_ret
                exact ⟨ret_i (by rw [hG.out]; rfl), rfl⟩
            · have hG := yes (by unfold oddHead; rw [decide_eq_false (show ¬ 1 < l.length by omega)]; simp)
              have b1 : (x == 48) = true := by simpa using hx
              clear yes no c48 HX Hd0 hd he hc hbyte S hS
              go_wp2
              go_ret
              exact ⟨ret_i (by rw [hG.out]; omega), rfl⟩
          · have hG := yes (by unfold oddHead; rw [c48, decide_eq_false hx]; rfl)
            have b1 : (x == 48) = false := by simpa using hx
            clear yes no c48 HX Hd0 hd he hc hbyte S hS
            go_wp2
            go_ret
            exact ⟨ret_i (by rw [hG.out]; omega), rfl⟩
end Go.Proofs.YteelbdcgdkpioaaGreatDoor.R4
/- What the document's answers for layer 1 (poundageref01) come to: wide numbers as whole numbers. -/
namespace Go.Proofs.YteelbdcgdkpioaaGreatDoor.R1
open Go.RowKit P

/-- A wide number's value: its sign, its upper and its lower part. -/
def wide (s : Bool) (m : Nat) : Value := .agg #[.bool s, .int .u64 (hiN m), .int .u64 (loN m)]
/-- A whole number as a wide one. -/
def W (v : Int) : Value := wide (decide (v < 0)) v.natAbs
theorem wide_eq {s : Bool} {a b : Int} {m : Nat} (ha : a = hiN m) (hb : b = loN m) : Value.agg #[.bool s, .int .u64 a, .int .u64 b] = wide s m := by unfold wide; rw [ha, hb]

theorem of_any (a : Int) (w : World) (ha : I64 a) :
    Calls Tryz.prog 99 #[.int .i64 a] w fun e w' => e = .returned (W a) ∧ Below w.heap.size w w' := by
  have hh : hiN a.natAbs = 0 := hiN_small (by unfold I64 at ha; omega)
  have hl : loN a.natAbs = a.natAbs := loN_small (by unfold I64 at ha; omega)
  by_cases h : a < 0
  · have e : IntKind.u64.wrap (IntKind.u64.wrap (wrap64 (-wrap64 (a + 1))) + 1) = loN a.natAbs := by
      rw [hl, wrap_in (n := a + 1) (by unfold I64 at *; omega), wrap_in (n := -(a + 1)) (by unfold I64 at *; omega), u64_mod, u64_mod]
      unfold I64 at ha; omega
    have r : Value.agg #[.bool true, .int .u64 0, .int .u64 (IntKind.u64.wrap (IntKind.u64.wrap (wrap64 (-wrap64 (a + 1))) + 1))] = W a := by
      unfold W; rw [decide_eq_true h]; exact wide_eq (by rw [hh]; rfl) e
    have R := hid r
    clear r e hh hl ha
    go_enter Tryz.func99, Tryz.ntmps99
    go_wp2
    exact bodyPost_ret (v := .agg #[.bool true, .int .u64 0, .int .u64 (IntKind.u64.wrap (IntKind.u64.wrap (wrap64 (-wrap64 (a + 1))) + 1))])
      (by simp [results, Tryz.results99, go_sem]) rfl ⟨by rw [R.out], (Below.refl _ _).alloc (Nat.le_refl _) _⟩
  · have e : IntKind.u64.wrap a = loN a.natAbs := by rw [hl, u64_mod]; unfold I64 at ha; omega
    have r : Value.agg #[.bool false, .int .u64 0, .int .u64 (IntKind.u64.wrap a)] = W a := by
      unfold W; rw [decide_eq_false h]; exact wide_eq (by rw [hh]; rfl) e
    have R := hid r
    clear r e hh hl ha
    go_enter Tryz.func99, Tryz.ntmps99
    go_wp2
    exact bodyPost_ret (v := .agg #[.bool false, .int .u64 0, .int .u64 (IntKind.u64.wrap a)])
      (by simp [results, Tryz.results99, go_sem]) rfl ⟨by rw [R.out], (Below.refl _ _).alloc (Nat.le_refl _) _⟩
theorem zero_any (s : Bool) (m : Nat) (w : World) :
    Calls Tryz.prog 129 #[wide s m] w fun e w' => e = .returned (.bool (m == 0)) ∧ Below w.heap.size w w' := by
  rw [← zero_iff]
  unfold wide
  rcases Bool.eq_false_or_eq_true (((hiN m : Nat) : Int) == 0) with h | h
  all_goals
    go_enter Tryz.func129, Tryz.ntmps129
    go_wp2
    go_ret
    exact ⟨by rw [h]; simp, (Below.refl _ _).alloc (Nat.le_refl _) _⟩
theorem plus_any (s t : Bool) (m n : Nat) (w : World) (hs : m + n < two128) :
    Calls Tryz.prog 128 #[wide s m, wide t n] w fun e w' => e = .returned (wide false (m + n)) ∧ Below w.heap.size w w' := by
  have el := plus_lo m n
  by_cases h : 18446744073709551616 ≤ loN m + loN n
  · have ht := plus_test_yes h
    have r : Value.agg #[.bool false, .int .u64 (IntKind.u64.wrap (IntKind.u64.wrap ((hiN m : Int) + (hiN n : Int)) + 1)), .int .u64 (IntKind.u64.wrap ((loN m : Int) + (loN n : Int)))] = wide false (m + n) := wide_eq (plus_hi_yes hs h) el
    have R := hid r
    clear r el h hs
    unfold wide
    go_enter Tryz.func128, Tryz.ntmps128
    go_wp2
    exact bodyPost_ret (v := .agg #[.bool false, .int .u64 (IntKind.u64.wrap (IntKind.u64.wrap ((hiN m : Int) + (hiN n : Int)) + 1)), .int .u64 (IntKind.u64.wrap ((loN m : Int) + (loN n : Int)))])
      (by simp [results, Tryz.results128, go_sem]) rfl ⟨by rw [R.out]; rfl, ((((Below.refl _ _).alloc (Nat.le_refl _) _).alloc (by simp) _).alloc (by first | omega | (simp <;> omega)) _)⟩
  · have ht := plus_test_no h
    have r : Value.agg #[.bool false, .int .u64 (IntKind.u64.wrap ((hiN m : Int) + (hiN n : Int))), .int .u64 (IntKind.u64.wrap ((loN m : Int) + (loN n : Int)))] = wide false (m + n) := wide_eq (plus_hi_no hs h) el
    have R := hid r
    clear r el h hs
    unfold wide
    go_enter Tryz.func128, Tryz.ntmps128
    go_wp2
    exact bodyPost_ret (v := .agg #[.bool false, .int .u64 (IntKind.u64.wrap ((hiN m : Int) + (hiN n : Int))), .int .u64 (IntKind.u64.wrap ((loN m : Int) + (loN n : Int)))])
      (by simp [results, Tryz.results128, go_sem]) rfl ⟨by rw [R.out]; rfl, ((((Below.refl _ _).alloc (Nat.le_refl _) _).alloc (by simp) _).alloc (by first | omega | (simp <;> omega)) _)⟩
theorem minus_any (s t : Bool) (m n : Nat) (w : World) (hs : m < two128) (hn : n ≤ m) :
    Calls Tryz.prog 131 #[wide s m, wide t n] w fun e w' => e = .returned (wide false (m - n)) ∧ Below w.heap.size w w' := by
  have el := minus_lo hn
  by_cases h : loN m < loN n
  · have ht := min_test_yes h
    have r : Value.agg #[.bool false, .int .u64 (IntKind.u64.wrap (IntKind.u64.wrap ((hiN m : Int) - (hiN n : Int)) - 1)), .int .u64 (IntKind.u64.wrap ((loN m : Int) - (loN n : Int)))] = wide false (m - n) := wide_eq (minus_hi_yes hs hn h) el
    have R := hid r
    clear r el h hs hn
    unfold wide
    go_enter Tryz.func131, Tryz.ntmps131
    go_wp2
    exact bodyPost_ret (v := .agg #[.bool false, .int .u64 (IntKind.u64.wrap (IntKind.u64.wrap ((hiN m : Int) - (hiN n : Int)) - 1)), .int .u64 (IntKind.u64.wrap ((loN m : Int) - (loN n : Int)))])
      (by simp [results, Tryz.results131, go_sem]) rfl ⟨by rw [R.out]; rfl, ((((Below.refl _ _).alloc (Nat.le_refl _) _).alloc (by simp) _).alloc (by first | omega | (simp <;> omega)) _)⟩
  · have ht := min_test_no h
    have r : Value.agg #[.bool false, .int .u64 (IntKind.u64.wrap ((hiN m : Int) - (hiN n : Int))), .int .u64 (IntKind.u64.wrap ((loN m : Int) - (loN n : Int)))] = wide false (m - n) := wide_eq (minus_hi_no hs hn h) el
    have R := hid r
    clear r el h hs hn
    unfold wide
    go_enter Tryz.func131, Tryz.ntmps131
    go_wp2
    exact bodyPost_ret (v := .agg #[.bool false, .int .u64 (IntKind.u64.wrap ((hiN m : Int) - (hiN n : Int))), .int .u64 (IntKind.u64.wrap ((loN m : Int) - (loN n : Int)))])
      (by simp [results, Tryz.results131, go_sem]) rfl ⟨by rw [R.out]; rfl, ((((Below.refl _ _).alloc (Nat.le_refl _) _).alloc (by simp) _).alloc (by first | omega | (simp <;> omega)) _)⟩
theorem size_any (s t : Bool) (m n : Nat) (w : World) :
    Calls Tryz.prog 130 #[wide s m, wide t n] w fun e w' => e = .returned (.bool (decide (m < n))) ∧ Below w.heap.size w w' := by
  rw [← size_iff]
  unfold wide
  rcases Bool.eq_false_or_eq_true (decide (hiN m < hiN n)) with h | h
  · go_enter Tryz.func130, Tryz.ntmps130
    go_wp2
    go_ret
    exact ⟨by simp [h], ((Below.refl _ _).alloc (Nat.le_refl _) _).alloc (by simp) _⟩
  · rcases Bool.eq_false_or_eq_true ((hiN m : Int) == (hiN n : Int)) with h' | h'
    all_goals
      go_enter Tryz.func130, Tryz.ntmps130
      go_wp2
      go_ret
      exact ⟨by simp only [h, h', Bool.false_or, Bool.true_and, Bool.false_and]; rfl, ((Below.refl _ _).alloc (Nat.le_refl _) _).alloc (by simp) _⟩
theorem wide_W {s : Bool} {m : Nat} {v : Int} (hm : m = v.natAbs) (hs : s = decide (v < 0)) : wide s m = W v := by unfold W; rw [hm, hs]
theorem bcell {W w1 : World} (hb : Below W.heap.size W w1) : (∀ b o, b < W.heap.size → w1.cell? ⟨b, o, none⟩ = W.cell? ⟨b, o, none⟩) ∧ (∀ b o, b < W.heap.size → w1.frozen? ⟨b, o, none⟩ = W.frozen? ⟨b, o, none⟩) :=
  ⟨fun b o h => hb.cell (p := ⟨b, o, none⟩) h, fun b o h => hb.frozen (p := ⟨b, o, none⟩) h⟩
theorem below_via {B : Nat} {w W w1 : World} (h : Below B w W) (hb : Below W.heap.size W w1) (hB : B ≤ W.heap.size) : Below B w w1 := h.trans (hb.mono hB)
/-- Both of one sign: the sizes together; the sign stays, but where all is nought. -/
theorem add_like (s : Bool) (m n : Nat) (w : World) (hs : m + n < two128) (h0 : s = true → (m + n == 0) = false) :
    Calls Tryz.prog 97 #[wide s m, wide s n] w fun e w' => e = .returned (wide s (m + n)) ∧ Below w.heap.size w w' := by
  have HS := hid hs
  clear hs
  cases s
  · have H0 := hid h0
    clear h0
    unfold wide
    go_enter Tryz.func97, Tryz.ntmps97
    go_wp2_with fail
    refine (plus_any _ _ _ _ _ HS.out).mono ?_; rintro e w1 ⟨rfl, hb1⟩; unfold wide
    obtain ⟨hc1, hf1⟩ := bcell hb1
    obtain ⟨k0, k1, k2⟩ : w.heap.size < w1.heap.size ∧ w.heap.size + 1 < w1.heap.size ∧ w.heap.size + 1 + 1 < w1.heap.size := by have := hb1.size; simp at this; omega
    go_wp2
    refine bodyPost_ret (v := .agg #[.bool false, .int .u64 (hiN (m + n)), .int .u64 (loN (m + n))])
      (by simp only [results, Tryz.results97]; go_simp) rfl ⟨rfl, ?_⟩
    repeat (first | (refine Below.setCell ?_ (by first | omega | (simp <;> omega)) _) | (refine Below.alloc ?_ (by first | omega | (simp <;> omega)) _) | (refine below_via ?_ hb1 (by first | omega | (simp <;> omega))) | exact Below.refl _ _)
  · have h1 : (m + n == 0) = false := h0 rfl
    clear h0
    unfold wide
    go_enter Tryz.func97, Tryz.ntmps97
    go_wp2_with fail
    refine (plus_any _ _ _ _ _ HS.out).mono ?_; rintro e w1 ⟨rfl, hb1⟩; unfold wide
    obtain ⟨hc1, hf1⟩ := bcell hb1
    obtain ⟨k0, k1, k2⟩ : w.heap.size < w1.heap.size ∧ w.heap.size + 1 < w1.heap.size ∧ w.heap.size + 1 + 1 < w1.heap.size := by have := hb1.size; simp at this; omega
    go_wp2_with fail
    refine (zero_any _ _ _).mono ?_; rintro e w2 ⟨rfl, hb2⟩; rw [h1]
    obtain ⟨hc2, hf2⟩ := bcell hb2
    have k3 : w1.heap.size < w2.heap.size := by have := hb2.size; simp at this; omega
    obtain ⟨k4, k5, k6⟩ : w.heap.size < w2.heap.size ∧ w.heap.size + 1 < w2.heap.size ∧ w.heap.size + 1 + 1 < w2.heap.size := ⟨by omega, by omega, by omega⟩
    go_wp2
    refine bodyPost_ret (v := .agg #[.bool true, .int .u64 (hiN (m + n)), .int .u64 (loN (m + n))])
      (by simp only [results, Tryz.results97]; go_simp) rfl ⟨rfl, ?_⟩
    repeat (first | (refine Below.setCell ?_ (by first | omega | (simp <;> omega)) _) | (refine Below.alloc ?_ (by first | omega | (simp <;> omega)) _) | (refine below_via ?_ hb2 (by first | omega | (simp <;> omega))) | (refine below_via ?_ hb1 (by first | omega | (simp <;> omega))) | exact Below.refl _ _)
theorem add_tf_lt (m n : Nat) (w : World) (hm : m < two128) (hn : n < two128) (h : m < n) :
    Calls Tryz.prog 97 #[wide true m, wide false n] w fun e w' => e = .returned (wide false (n - m)) ∧ Below w.heap.size w w' := by
  have ht : decide (m < n) = true := by simp; omega
  have HM := hid hm
  have HN := hid hn
  have H := hid h
  clear hm hn h
  unfold wide
  go_enter Tryz.func97, Tryz.ntmps97
  go_wp2_with fail
  refine (size_any _ _ _ _ _).mono ?_; rintro e w1 ⟨rfl, hb1⟩; rw [ht]
  obtain ⟨hc1, hf1⟩ := bcell hb1
  obtain ⟨k0, k1, k2⟩ : w.heap.size < w1.heap.size ∧ w.heap.size + 1 < w1.heap.size ∧ w.heap.size + 1 + 1 < w1.heap.size := by have := hb1.size; simp at this; omega
  go_wp2_with fail
  refine (minus_any _ _ _ _ _ HN.out (by have := H.out; omega)).mono ?_; rintro e w2 ⟨rfl, hb2⟩; unfold wide
  obtain ⟨hc2, hf2⟩ := bcell hb2
  have j0 : w1.heap.size ≤ w2.heap.size := hb2.size
  obtain ⟨j1, j2, j3⟩ : w.heap.size < w2.heap.size ∧ w.heap.size + 1 < w2.heap.size ∧ w.heap.size + 1 + 1 < w2.heap.size := ⟨by omega, by omega, by omega⟩
  go_wp2
  refine bodyPost_ret (v := .agg #[.bool false, .int .u64 (hiN (n - m)), .int .u64 (loN (n - m))])
    (by simp only [results, Tryz.results97]; go_simp) rfl ⟨rfl, ?_⟩
  repeat (first | (refine Below.setCell ?_ (by first | omega | (simp <;> omega)) _) | (refine Below.alloc ?_ (by first | omega | (simp <;> omega)) _) | (refine below_via ?_ hb2 (by first | omega | (simp <;> omega))) | (refine below_via ?_ hb1 (by first | omega | (simp <;> omega))) | exact Below.refl _ _)
theorem add_ft_lt (m n : Nat) (w : World) (hm : m < two128) (hn : n < two128) (h : m < n) (h0 : (n - m == 0) = false) :
    Calls Tryz.prog 97 #[wide false m, wide true n] w fun e w' => e = .returned (wide true (n - m)) ∧ Below w.heap.size w w' := by
  have ht : decide (m < n) = true := by simp; omega
  have HM := hid hm
  have HN := hid hn
  have H := hid h
  clear hm hn h
  unfold wide
  go_enter Tryz.func97, Tryz.ntmps97
  go_wp2_with fail
  refine (size_any _ _ _ _ _).mono ?_; rintro e w1 ⟨rfl, hb1⟩; rw [ht]
  obtain ⟨hc1, hf1⟩ := bcell hb1
  obtain ⟨k0, k1, k2⟩ : w.heap.size < w1.heap.size ∧ w.heap.size + 1 < w1.heap.size ∧ w.heap.size + 1 + 1 < w1.heap.size := by have := hb1.size; simp at this; omega
  go_wp2_with fail
  refine (minus_any _ _ _ _ _ HN.out (by have := H.out; omega)).mono ?_; rintro e w2 ⟨rfl, hb2⟩; unfold wide
  obtain ⟨hc2, hf2⟩ := bcell hb2
  have j0 : w1.heap.size ≤ w2.heap.size := hb2.size
  obtain ⟨j1, j2, j3⟩ : w.heap.size < w2.heap.size ∧ w.heap.size + 1 < w2.heap.size ∧ w.heap.size + 1 + 1 < w2.heap.size := ⟨by omega, by omega, by omega⟩
  go_wp2_with fail
  refine (zero_any _ _ _).mono ?_; rintro e w3 ⟨rfl, hb3⟩; rw [h0]
  obtain ⟨hc3, hf3⟩ := bcell hb3
  have i0 : w2.heap.size < w3.heap.size := by have := hb3.size; simp at this; omega
  obtain ⟨i1, i2, i3⟩ : w.heap.size < w3.heap.size ∧ w.heap.size + 1 < w3.heap.size ∧ w.heap.size + 1 + 1 < w3.heap.size := ⟨by omega, by omega, by omega⟩
  go_wp2
  refine bodyPost_ret (v := .agg #[.bool true, .int .u64 (hiN (n - m)), .int .u64 (loN (n - m))])
    (by simp only [results, Tryz.results97]; go_simp) rfl ⟨rfl, ?_⟩
  repeat (first | (refine Below.setCell ?_ (by first | omega | (simp <;> omega)) _) | (refine Below.alloc ?_ (by first | omega | (simp <;> omega)) _) | (refine below_via ?_ hb3 (by first | omega | (simp <;> omega))) | (refine below_via ?_ hb2 (by first | omega | (simp <;> omega))) | (refine below_via ?_ hb1 (by first | omega | (simp <;> omega))) | exact Below.refl _ _)
theorem add_ft_ge (m n : Nat) (w : World) (hm : m < two128) (hn : n < two128) (h : n ≤ m) :
    Calls Tryz.prog 97 #[wide false m, wide true n] w fun e w' => e = .returned (wide false (m - n)) ∧ Below w.heap.size w w' := by
  have ht : decide (m < n) = false := by simp; omega
  have HM := hid hm
  have HN := hid hn
  have H := hid h
  clear hm hn h
  unfold wide
  go_enter Tryz.func97, Tryz.ntmps97
  go_wp2_with fail
  refine (size_any _ _ _ _ _).mono ?_; rintro e w1 ⟨rfl, hb1⟩; rw [ht]
  obtain ⟨hc1, hf1⟩ := bcell hb1
  obtain ⟨k0, k1, k2⟩ : w.heap.size < w1.heap.size ∧ w.heap.size + 1 < w1.heap.size ∧ w.heap.size + 1 + 1 < w1.heap.size := by have := hb1.size; simp at this; omega
  go_wp2_with fail
  refine (minus_any _ _ _ _ _ HM.out (by have := H.out; omega)).mono ?_; rintro e w2 ⟨rfl, hb2⟩; unfold wide
  obtain ⟨hc2, hf2⟩ := bcell hb2
  have j0 : w1.heap.size ≤ w2.heap.size := hb2.size
  obtain ⟨j1, j2, j3⟩ : w.heap.size < w2.heap.size ∧ w.heap.size + 1 < w2.heap.size ∧ w.heap.size + 1 + 1 < w2.heap.size := ⟨by omega, by omega, by omega⟩
  go_wp2
  refine bodyPost_ret (v := .agg #[.bool false, .int .u64 (hiN (m - n)), .int .u64 (loN (m - n))])
    (by simp only [results, Tryz.results97]; go_simp) rfl ⟨rfl, ?_⟩
  repeat (first | (refine Below.setCell ?_ (by first | omega | (simp <;> omega)) _) | (refine Below.alloc ?_ (by first | omega | (simp <;> omega)) _) | (refine below_via ?_ hb2 (by first | omega | (simp <;> omega))) | (refine below_via ?_ hb1 (by first | omega | (simp <;> omega))) | exact Below.refl _ _)
theorem add_tf_gt (m n : Nat) (w : World) (hm : m < two128) (hn : n < two128) (h : n ≤ m) (h0 : (m - n == 0) = false) :
    Calls Tryz.prog 97 #[wide true m, wide false n] w fun e w' => e = .returned (wide true (m - n)) ∧ Below w.heap.size w w' := by
  have ht : decide (m < n) = false := by simp; omega
  have HM := hid hm
  have HN := hid hn
  have H := hid h
  clear hm hn h
  unfold wide
  go_enter Tryz.func97, Tryz.ntmps97
  go_wp2_with fail
  refine (size_any _ _ _ _ _).mono ?_; rintro e w1 ⟨rfl, hb1⟩; rw [ht]
  obtain ⟨hc1, hf1⟩ := bcell hb1
  obtain ⟨k0, k1, k2⟩ : w.heap.size < w1.heap.size ∧ w.heap.size + 1 < w1.heap.size ∧ w.heap.size + 1 + 1 < w1.heap.size := by have := hb1.size; simp at this; omega
  go_wp2_with fail
  refine (minus_any _ _ _ _ _ HM.out (by have := H.out; omega)).mono ?_; rintro e w2 ⟨rfl, hb2⟩; unfold wide
  obtain ⟨hc2, hf2⟩ := bcell hb2
  have j0 : w1.heap.size ≤ w2.heap.size := hb2.size
  obtain ⟨j1, j2, j3⟩ : w.heap.size < w2.heap.size ∧ w.heap.size + 1 < w2.heap.size ∧ w.heap.size + 1 + 1 < w2.heap.size := ⟨by omega, by omega, by omega⟩
  go_wp2_with fail
  refine (zero_any _ _ _).mono ?_; rintro e w3 ⟨rfl, hb3⟩; rw [h0]
  obtain ⟨hc3, hf3⟩ := bcell hb3
  have i0 : w2.heap.size < w3.heap.size := by have := hb3.size; simp at this; omega
  obtain ⟨i1, i2, i3⟩ : w.heap.size < w3.heap.size ∧ w.heap.size + 1 < w3.heap.size ∧ w.heap.size + 1 + 1 < w3.heap.size := ⟨by omega, by omega, by omega⟩
  go_wp2
  refine bodyPost_ret (v := .agg #[.bool true, .int .u64 (hiN (m - n)), .int .u64 (loN (m - n))])
    (by simp only [results, Tryz.results97]; go_simp) rfl ⟨rfl, ?_⟩
  repeat (first | (refine Below.setCell ?_ (by first | omega | (simp <;> omega)) _) | (refine Below.alloc ?_ (by first | omega | (simp <;> omega)) _) | (refine below_via ?_ hb3 (by first | omega | (simp <;> omega))) | (refine below_via ?_ hb2 (by first | omega | (simp <;> omega))) | (refine below_via ?_ hb1 (by first | omega | (simp <;> omega))) | exact Below.refl _ _)
theorem add_tf_eq (m n : Nat) (w : World) (hm : m < two128) (hn : n < two128) (h : n ≤ m) (h0 : (m - n == 0) = true) :
    Calls Tryz.prog 97 #[wide true m, wide false n] w fun e w' => e = .returned (wide false (m - n)) ∧ Below w.heap.size w w' := by
  have ht : decide (m < n) = false := by simp; omega
  have HM := hid hm
  have HN := hid hn
  have H := hid h
  clear hm hn h
  unfold wide
  go_enter Tryz.func97, Tryz.ntmps97
  go_wp2_with fail
  refine (size_any _ _ _ _ _).mono ?_; rintro e w1 ⟨rfl, hb1⟩; rw [ht]
  obtain ⟨hc1, hf1⟩ := bcell hb1
  obtain ⟨k0, k1, k2⟩ : w.heap.size < w1.heap.size ∧ w.heap.size + 1 < w1.heap.size ∧ w.heap.size + 1 + 1 < w1.heap.size := by have := hb1.size; simp at this; omega
  go_wp2_with fail
  refine (minus_any _ _ _ _ _ HM.out (by have := H.out; omega)).mono ?_; rintro e w2 ⟨rfl, hb2⟩; unfold wide
  obtain ⟨hc2, hf2⟩ := bcell hb2
  have j0 : w1.heap.size ≤ w2.heap.size := hb2.size
  obtain ⟨j1, j2, j3⟩ : w.heap.size < w2.heap.size ∧ w.heap.size + 1 < w2.heap.size ∧ w.heap.size + 1 + 1 < w2.heap.size := ⟨by omega, by omega, by omega⟩
  go_wp2_with fail
  refine (zero_any _ _ _).mono ?_; rintro e w3 ⟨rfl, hb3⟩; rw [h0]
  obtain ⟨hc3, hf3⟩ := bcell hb3
  have i0 : w2.heap.size < w3.heap.size := by have := hb3.size; simp at this; omega
  obtain ⟨i1, i2, i3⟩ : w.heap.size < w3.heap.size ∧ w.heap.size + 1 < w3.heap.size ∧ w.heap.size + 1 + 1 < w3.heap.size := ⟨by omega, by omega, by omega⟩
  go_wp2
  refine bodyPost_ret (v := .agg #[.bool false, .int .u64 (hiN (m - n)), .int .u64 (loN (m - n))])
    (by simp only [results, Tryz.results97]; go_simp) rfl ⟨rfl, ?_⟩
  repeat (first | (refine Below.setCell ?_ (by first | omega | (simp <;> omega)) _) | (refine Below.alloc ?_ (by first | omega | (simp <;> omega)) _) | (refine below_via ?_ hb3 (by first | omega | (simp <;> omega))) | (refine below_via ?_ hb2 (by first | omega | (simp <;> omega))) | (refine below_via ?_ hb1 (by first | omega | (simp <;> omega))) | exact Below.refl _ _)
theorem add_any (u v : Int) (w : World) (hu : u.natAbs < two127) (hv : v.natAbs < two127) :
    Calls Tryz.prog 97 #[W u, W v] w fun e w' => e = .returned (W (u + v)) ∧ Below w.heap.size w w' := by
  have hu2 : u.natAbs < two128 := by unfold two127 at hu; unfold two128; omega
  have hv2 : v.natAbs < two128 := by unfold two127 at hv; unfold two128; omega
  have huv : u.natAbs + v.natAbs < two128 := by unfold two127 at hu hv; unfold two128; omega
  unfold W
  by_cases hu0 : u < 0
  · by_cases hv0 : v < 0
    · have e1 : (u + v).natAbs = u.natAbs + v.natAbs := by omega
      rw [decide_eq_true hu0, decide_eq_true hv0, decide_eq_true (show u + v < 0 by omega), e1]
      exact add_like true _ _ w huv (fun _ => by simp; omega)
    · by_cases hc : u.natAbs < v.natAbs
      · have e1 : (u + v).natAbs = v.natAbs - u.natAbs := by omega
        rw [decide_eq_true hu0, decide_eq_false hv0, decide_eq_false (show ¬ u + v < 0 by omega), e1]
        exact add_tf_lt _ _ w hu2 hv2 hc
      · have e1 : (u + v).natAbs = u.natAbs - v.natAbs := by omega
        by_cases hz : u.natAbs = v.natAbs
        · rw [decide_eq_true hu0, decide_eq_false hv0, decide_eq_false (show ¬ u + v < 0 by omega), e1]
          exact add_tf_eq _ _ w hu2 hv2 (by omega) (by simp; omega)
        · rw [decide_eq_true hu0, decide_eq_false hv0, decide_eq_true (show u + v < 0 by omega), e1]
          exact add_tf_gt _ _ w hu2 hv2 (by omega) (by simp; omega)
  · by_cases hv0 : v < 0
    · by_cases hc : u.natAbs < v.natAbs
      · have e1 : (u + v).natAbs = v.natAbs - u.natAbs := by omega
        rw [decide_eq_false hu0, decide_eq_true hv0, decide_eq_true (show u + v < 0 by omega), e1]
        exact add_ft_lt _ _ w hu2 hv2 hc (by simp; omega)
      · have e1 : (u + v).natAbs = u.natAbs - v.natAbs := by omega
        rw [decide_eq_false hu0, decide_eq_true hv0, decide_eq_false (show ¬ u + v < 0 by omega), e1]
        exact add_ft_ge _ _ w hu2 hv2 (by omega)
    · have e1 : (u + v).natAbs = u.natAbs + v.natAbs := by omega
      rw [decide_eq_false hu0, decide_eq_false hv0, decide_eq_false (show ¬ u + v < 0 by omega), e1]
      exact add_like false _ _ w huv (fun h => by cases h)
end Go.Proofs.YteelbdcgdkpioaaGreatDoor.R1
