/- What package decimal does: number, and what a text is. -/
import Derived.Test.YtinadkgfhoibkaaDoorJDecim
import Derived.Lib.AppendIntMem
import Derived.StillTail
import Derived.Lib.QuietBelow
import Derived.Test.YtinadkgfhoibkaaDoorJPaP
import Derived.BigQuiet
import Derived.Deep.CutBlock
import Derived.Deep.RegionHeld3
import Derived.Deep.DeepCutAuto
import Derived.Test.YtinadkgfhoibkaaDoorJLexQ
import Derived.Test.YtinadkgfhoibkaaDoorJLays
namespace Go.Proofs.YtinadkgfhoibkaaDoor.Dc
open Go.RowKit Go.Sort P Ex

theorem stV_ge : ∀ (b a : List UInt8), b.all isDg = true → stV a ≤ stV (a ++ b)
  | b, a, h => by
    rw [stV_digits b a h]
    have : 0 < 10 ^ b.length := Nat.pow_pos (by decide)
    have h2 : stV a * 1 ≤ stV a * 10 ^ b.length := Nat.mul_le_mul_left _ (by omega)
    omega
theorem stV_take (l : List UInt8) (i : Nat) (h : l.all isDg = true) : stV (l.take i) ≤ stV l := by
  have h2 : (l.drop i).all isDg = true := by
    rw [List.all_eq_true] at *
    exact fun b hb => h b (List.mem_of_mem_drop hb)
  have := stV_ge (l.drop i) (l.take i) h2
  rwa [List.take_append_drop] at this
theorem number_any (s : ByteArray) (w : World) (hd : s.data.toList.all isDg = true) :
    Calls Tryd.prog 90 #[.string s] w fun e w' => e = .returned (.tuple #[.int .i64 (cut64 (stV s.data.toList)), .bool (ok64 (stV s.data.toList))]) ∧ Below w.heap.size w w' := by
  obtain ⟨V, hV⟩ : ∃ V : Int, V = (stV s.data.toList : Int) := ⟨_, rfl⟩
  rw [← hV]
  have H := hid hV
  clear hV
  go_enter Tryd.func90, Tryd.ntmps90
  go_wp2
  go_loopw [4] (fun n wr => ∃ (pos : Nat) (v : Int), n = .int .i64 v ∧ 0 ≤ v ∧ I64 v ∧ pos ≤ s.size ∧ Hid (v = (stV (s.data.toList.take pos) : Int)) ∧ wr.heap[w.heap.size]? = some (.stringIter s pos) ∧ Below w.heap.size w wr) (fun _ wr => s.size - wr.iterPos w.heap.size)
  case atStart => exact ⟨0, 0, rfl, Int.le_refl _, i64_0, Nat.zero_le _, hid rfl, World.iter_heap w s 0, (Below.refl _ _).alloc (Nat.le_refl _) _⟩
  case round =>
    obtain ⟨pos, v, rfl, hv0, hvI, hp0, hv, hit, hbw⟩ := hrel
    by_cases hp : pos < s.size
    · have hb2 := Lib.below_iterAt hbw (k := w.heap.size) (Nat.le_refl _) s
      have hdg := all_at s pos hp hd
      have he : Utf8.decode s pos = ((s[pos]'hp).toNat, 1) := by
        rcases rune_of s pos hp with ⟨_, he⟩ | ⟨hx, _⟩
        · exact he
        · rw [hdg] at hx; cases hx
      have hnx : ∀ ty, (Instr.next (.pointer (some ⟨w.heap.size, 0, none⟩)) true ty).run Tryd.prog wr = _ := fun ty => Lib.run_next_any_at wr w.heap.size s pos ty hit hp
      rw [he] at hnx
      have hit2 := Lib.iterAt_heap wr w.heap.size s pos (pos + 1) hit
      have hb3 := hb2 (pos + 1)
      have hd' := (isDg_iff _).1 hdg
      have hk := take_byte s pos hp
      have hsn : (stV (s.data.toList.take (pos + 1)) : Int) = v * 10 + (((s[pos]'hp).toNat : Int) - 48) := by
        rw [hk, stV_snoc, if_neg (isDg_no46 hdg), hv.out]; omega
      have hle := stV_take s.data.toList (pos + 1) hd
      obtain ⟨x, hx⟩ : ∃ x : Int, x = ((s[pos]'hp).toNat : Int) := ⟨_, rfl⟩
      have hx0 : 48 ≤ x := by omega
      have hx1 : x ≤ 57 := by omega
      rw [← hx] at hsn
      simp only [← hx] at hnx
      have hVle : v * 10 + (x - 48) ≤ V := by rw [H.out, ← hsn]; omega
      obtain ⟨W2, hW2⟩ : ∃ W2, W2 = wr.iterAt w.heap.size s (pos + 1) := ⟨_, rfl⟩
      rw [← hW2] at hb3 hit2 hnx
      have cT := tens_any v 1 W2 hv0 hvI (by decide)
      rw [show v * 10 ^ 1 = v * 10 by simp] at cT
      by_cases h1 : I64 (v * 10)
      · rw [cut64_t h1, ok64_t h1] at cT
        have cA := add_any (v * 10) (x - 48) W2 h1 (by unfold I64; omega)
        by_cases h2 : I64 (v * 10 + (x - 48))
        · rw [cut64_t h2, ok64_t h2] at cA
          obtain ⟨y, hy⟩ : ∃ y, y = v * 10 := ⟨_, rfl⟩
          obtain ⟨z, hz⟩ : ∃ z, z = y + (x - 48) := ⟨_, rfl⟩
          rw [← hy] at cT cA h2 hsn
          rw [← hz] at cA h2 hsn
          have hz0 : 0 ≤ z := by omega
          have hfin : Hid (z = (stV (s.data.toList.take (pos + 1)) : Int)) := hid hsn.symm
          have hW3 := hid hW2
          clear hsn hle hk hd' hdg he hx hVle h1 hy hz hW2
          go_wp2_with (first
            | (go_at_call 91; refine cT.mono ?_; rintro e w1 ⟨rfl, rfl⟩)
            | (go_at_call 94; refine cA.mono ?_; rintro e w1 ⟨rfl, rfl⟩))
          go_roundw
          case rel => exact ⟨pos + 1, z, rfl, hz0, h2, by omega, hfin, hit2, hb3⟩
          case measure =>
            simp only [World.iterPos, hit2, hit]
            omega
        · rw [cut64_f h2, ok64_f h2] at cA
          have hbig : ¬ I64 V := by unfold I64 at *; omega
          have E := hid (And.intro (cut64_f hbig) (ok64_f hbig))
          obtain ⟨y, hy⟩ : ∃ y, y = v * 10 := ⟨_, rfl⟩
          rw [← hy] at cT cA
          clear hsn hle hk hd' hdg he hx hVle h1 h2 hy hW2 hbig
          go_wp2_with (first
            | (go_at_call 91; refine cT.mono ?_; rintro e w1 ⟨rfl, rfl⟩)
            | (go_at_call 94; refine cA.mono ?_; rintro e w1 ⟨rfl, rfl⟩))
          go_ret2
          exact ⟨Ex.ret_2 E.out.1.symm E.out.2.symm, hb3⟩
      · rw [cut64_f h1, ok64_f h1] at cT
        have hbig : ¬ I64 V := by unfold I64 at *; omega
        have E := hid (And.intro (cut64_f hbig) (ok64_f hbig))
        clear hsn hle hk hd' hdg he hx hVle h1 hW2 hbig
        go_wp2_with (go_at_call 91; refine cT.mono ?_; rintro e w1 ⟨rfl, rfl⟩)
        go_ret2
        exact ⟨Ex.ret_2 E.out.1.symm E.out.2.symm, hb3⟩
    · have hnx : ∀ ty, (Instr.next (.pointer (some ⟨w.heap.size, 0, none⟩)) true ty).run Tryd.prog wr = _ := fun ty => Lib.run_next_end_at wr w.heap.size s pos ty hit hp
      have e : s.data.toList.take pos = s.data.toList := List.take_of_length_le (by show s.size ≤ _; omega)
      have hvV : v = V := by rw [hv.out, e, H.out]
      have E := hid (And.intro (cut64_t (hvV ▸ hvI)) (ok64_t (hvV ▸ hvI)))
      have H2 := hid hvV
      clear hvV e
      go_wp2
      go_ret2
      exact ⟨Ex.ret_2 (H2.out.trans E.out.1.symm) E.out.2.symm, hbw⟩

/-! The worlds: the library's number MaxLen is some number, its table of powers of ten stands as laid. -/
def Mx (w : World) : Prop := ∃ m, w.cell? ⟨4, 0, none⟩ = some (.int .i64 m)
def Tab (w : World) : Prop := Lib.TabIs Tryd.prog w "internal/strconv.uint64pow10" .u64 Lib.pow10Tab
def K (w : World) : Prop := Mx w ∧ Tab w
theorem K.later {w w' : World} (h : K w) (b : Below w.heap.size w w') : K w' := by
  obtain ⟨⟨m, hm⟩, T⟩ := h
  exact ⟨⟨m, (b.cell (World.block_lt_of_cell? w _ hm)).trans hm⟩, Lib.tabBelow_of_tabIs T _ b⟩
theorem mx_of {w : World} (h : w.ShapedOpen Tryd.prog) : Mx w := Tryd.laysM145.s1_3 w h
theorem Mx.later {w w' : World} (h : Mx w) (b : Below w.heap.size w w') : Mx w' := by
  obtain ⟨m, hm⟩ := h
  exact ⟨m, (b.cell (World.block_lt_of_cell? w _ hm)).trans hm⟩
theorem cut_mx (s : ByteArray) (w : World) (k : Mx w) (hs : s.size ≤ 1000000) :
    Calls Tryd.prog 54 #[.string s, .string ⟨#[46]⟩] w fun e w' => e = .returned (.tuple #[.string ⟨(Lib.cut s.data.toList [46]).1.toArray⟩, .string ⟨(Lib.cut s.data.toList [46]).2.1.toArray⟩, .bool (Lib.cut s.data.toList [46]).2.2]) ∧ Below w.heap.size w w' := by
  obtain ⟨m, hm⟩ := k
  refine (Any.strings_Cut { Tryd.laysM145 with } s ⟨#[46]⟩ m w (by omega) hm).mono ?_
  rintro e w' ⟨rfl, n, rfl⟩
  exact ⟨rfl, bel_drewN (Below.refl _ _) n⟩
theorem cut_any (s : ByteArray) (w : World) (k : K w) (hs : s.size ≤ 1000000) :
    Calls Tryd.prog 54 #[.string s, .string ⟨#[46]⟩] w fun e w' => e = .returned (.tuple #[.string ⟨(Lib.cut s.data.toList [46]).1.toArray⟩, .string ⟨(Lib.cut s.data.toList [46]).2.1.toArray⟩, .bool (Lib.cut s.data.toList [46]).2.2]) ∧ Below w.heap.size w w' := cut_mx s w k.1 hs
theorem itoa_any (n : Int) (w : World) (h0 : 0 ≤ n) (h1 : I64 n) (T : Tab w) :
    Calls Tryd.prog 10 #[.int .i64 n] w fun e w' => e = .returned (.string ⟨(Lib.decDigits n.toNat).toArray⟩) ∧ Below w.heap.size w w' := by
  unfold I64 at h1
  refine (Any.strconv_Itoa Tryd.laysM171 n (by omega) (by omega) w T).mono ?_
  rintro e w' ⟨rfl, k, os, rfl⟩
  refine ⟨?_, Lib.below_grow _ _ (Nat.le_refl _) _ _⟩
  have e : n = (n.toNat : Int) := by omega
  rw [e, Lib.itoa_nonneg]
  rfl
end Go.Proofs.YtinadkgfhoibkaaDoor.Dc
/- What package decimal does: Of, Parse. -/
namespace Go.Proofs.YtinadkgfhoibkaaDoor.Dc
open Go.RowKit Go.Sort P Ex

/-- What Of answers, by what the cut answers. -/
def fc (a b : List UInt8) (found : Bool) : Int := if pl a then (if found then (if b.all isDg && !b.isEmpty then 2 else 0) else 1) else 0
theorem fm_fc (l : List UInt8) : (fm l : Int) = fc (Lib.cut l [46]).1 (Lib.cut l [46]).2.1 (Lib.cut l [46]).2.2 := by
  rcases cut_one l 46 with ⟨h, e⟩ | ⟨a, b, h, h2, e⟩
  · rw [e, fm_cut_no h]
    unfold fc
    cases pl l <;> rfl
  · rw [e, h, fm_cut_yes h2]
    unfold fc
    cases pl a <;> cases (b.all isDg && !b.isEmpty) <;> rfl
theorem mk_list (l : List UInt8) : (⟨l.toArray⟩ : ByteArray).data.toList = l := by simp
theorem of_mx (s : ByteArray) (w : World) (k : Mx w) (hs : s.size ≤ 1000000) :
    Calls Tryd.prog 36 #[.string s] w fun e w' => e = .returned (.int .i64 (fm s.data.toList)) ∧ Below w.heap.size w w' := by
  have cC := cut_mx s w k hs
  rw [fm_fc]
  generalize (Lib.cut s.data.toList [46]).1 = a at *
  generalize (Lib.cut s.data.toList [46]).2.1 = b at *
  generalize (Lib.cut s.data.toList [46]).2.2 = f at *
  have cP := fun W => plain_any ⟨a.toArray⟩ W
  have cD := fun W => digits_any ⟨b.toArray⟩ W
  rw [mk_list] at cP cD
  unfold fc
  generalize pl a = p at *
  generalize (b.all isDg && !b.isEmpty) = d at *
  rcases Bool.eq_false_or_eq_true p with rfl | rfl
  · rcases Bool.eq_false_or_eq_true f with rfl | rfl
    · rcases Bool.eq_false_or_eq_true d with rfl | rfl
      all_goals
        go_enter Tryd.func36, Tryd.ntmps36
        go_wp2_with (first
          | (go_at_call 54; refine cC.mono ?_; rintro e w1 ⟨rfl, b1⟩)
          | (go_at_call 55; refine (cP _).mono ?_; rintro e w2 ⟨rfl, b2⟩; have B2 := b1.trans (b2.mono b1.size))
          | (go_at_call 56; refine (cD _).mono ?_; rintro e w3 ⟨rfl, b3⟩; have B3 := B2.trans (b3.mono B2.size)))
        go_ret
        exact ⟨rfl, B3⟩
    · go_enter Tryd.func36, Tryd.ntmps36
      go_wp2_with (first
        | (go_at_call 54; refine cC.mono ?_; rintro e w1 ⟨rfl, b1⟩)
        | (go_at_call 55; refine (cP _).mono ?_; rintro e w2 ⟨rfl, b2⟩; have B2 := b1.trans (b2.mono b1.size)))
      go_ret
      exact ⟨rfl, B2⟩
  · go_enter Tryd.func36, Tryd.ntmps36
    go_wp2_with (first
      | (go_at_call 54; refine cC.mono ?_; rintro e w1 ⟨rfl, b1⟩)
      | (go_at_call 55; refine (cP _).mono ?_; rintro e w2 ⟨rfl, b2⟩; have B2 := b1.trans (b2.mono b1.size)))
    go_ret
    exact ⟨rfl, B2⟩
theorem of_any (s : ByteArray) (w : World) (k : K w) (hs : s.size ≤ 1000000) :
    Calls Tryd.prog 36 #[.string s] w fun e w' => e = .returned (.int .i64 (fm s.data.toList)) ∧ Below w.heap.size w w' := of_mx s w k.1 hs
/-- What a number's cut tells of what it comes to. -/
theorem cut_tells {l : List UInt8} (h : fm l ≠ 0) : ∃ a b f, Lib.cut l [46] = (a, b, f) ∧ (a ++ b).all isDg = true ∧ stV (a ++ b) = stV l ∧ max (stB l) 0 = b.length ∧ a.length + b.length ≤ l.length := by
  rcases cut_one l 46 with ⟨h1, e⟩ | ⟨a, b, h1, h2, e⟩
  · rw [fm_cut_no h1] at h
    have hp : pl l = true := by
      cases k : pl l
      · rw [k] at h; exact absurd rfl h
      · rfl
    obtain ⟨x, _, _⟩ := pl_oddHead hp
    refine ⟨l, [], false, e, by rwa [List.append_nil], by rw [List.append_nil], ?_, by simp⟩
    rw [stB_plain x]; rfl
  · rw [h1, fm_cut_yes h2] at h
    have hp : (pl a && (b.all isDg && !b.isEmpty)) = true := by
      cases k : (pl a && (b.all isDg && !b.isEmpty))
      · rw [k] at h; exact absurd rfl h
      · rfl
    rw [Bool.and_eq_true, Bool.and_eq_true] at hp
    obtain ⟨x, _, _⟩ := pl_oddHead hp.1
    refine ⟨a, b, true, e, by rw [List.all_append, x, hp.2.1]; rfl, by rw [h1, stV_cut hp.2.1], ?_, by rw [h1]; simp⟩
    rw [h1, stB_cut hp.2.1]; omega
theorem pw_bad {l : List UInt8} {p : Int} (most : Int) (h : pBad l p = true) : pN l p most = 0 ∧ pW l p most = 1 := by
  unfold pN pW; rw [h]; exact ⟨rfl, rfl⟩
theorem pw_great {l : List UInt8} {p most : Int} (h : pBad l p = false) (g : pGreat l p most = true) : pN l p most = 0 ∧ pW l p most = 2 := by
  unfold pN pW; rw [h, g]; exact ⟨rfl, rfl⟩
theorem pw_fine {l : List UInt8} {p most : Int} (h : pBad l p = false) (g : pGreat l p most = false) : pN l p most = pV l p ∧ pW l p most = 0 := by
  unfold pN pW; rw [h, g]; exact ⟨rfl, rfl⟩
theorem big_pow {v : Int} {j : Nat} (hv0 : 0 ≤ v) (h : ¬ I64 v) : ¬ I64 (v * 10 ^ j) := by
  have hp : (0 : Int) < 10 ^ j := Int.pow_pos (by decide)
  obtain ⟨y, hy⟩ : ∃ y : Int, y = 10 ^ j := ⟨_, rfl⟩
  rw [← hy] at hp ⊢
  have h5 : v * 1 ≤ v * y := Int.mul_le_mul_of_nonneg_left (by omega) hv0
  obtain ⟨z, hz⟩ : ∃ z : Int, z = v * y := ⟨_, rfl⟩
  rw [← hz] at h5 ⊢
  clear hz hy
  unfold I64 at *
  omega
set_option maxHeartbeats 1000000 in
theorem parse_mx (s : ByteArray) (places most : Int) (w : World) (k : Mx w) (hs : s.size ≤ 1000000) :
    Calls Tryd.prog 84 #[.string s, .int .i64 places, .int .i64 most] w fun e w' =>
      e = .returned (.tuple #[.int .i64 (pN s.data.toList places most), .int .i64 (pW s.data.toList places most)]) ∧ Below w.heap.size w w' := by
  have cG := fun W => good_any places W
  by_cases hg : 0 ≤ places ∧ places ≤ 9
  · rw [decide_eq_true hg] at cG
    have cO := of_mx s w k hs
    by_cases hf : fm s.data.toList = 0
    · have hb : pBad s.data.toList places = true := by unfold pBad; exact decide_eq_true (.inl hf)
      obtain ⟨e1, e2⟩ := pw_bad most hb
      rw [e1, e2]
      rw [hf] at cO
      clear hb e1 e2 hf hg
      go_enter Tryd.func84, Tryd.ntmps84
      go_wp2_with (first
        | (go_at_call 89; refine (cG _).mono ?_; rintro e w1 ⟨rfl, rfl⟩)
        | (go_at_call 36; refine cO.mono ?_; rintro e w1 ⟨rfl, b1⟩))
      go_ret2
      exact ⟨rfl, b1⟩
    · obtain ⟨a, b, f, hc, hd, hv, hB, hl⟩ := cut_tells hf
      have cC := fun W kW => cut_mx s W kW hs
      rw [hc] at cC
      obtain ⟨F, hF⟩ : ∃ F : Int, F = (fm s.data.toList : Int) := ⟨_, rfl⟩
      rw [← hF] at cO
      have hF0 : (F == 0) = false := by simp; omega
      obtain ⟨bS, hbS⟩ : ∃ bS : ByteArray, bS = ⟨b.toArray⟩ := ⟨_, rfl⟩
      obtain ⟨aS, haS⟩ : ∃ aS : ByteArray, aS = ⟨a.toArray⟩ := ⟨_, rfl⟩
      have hbl : bS.size = b.length := by rw [hbS, ba_size]
      have hal : aS.size = a.length := by rw [haS, ba_size]
      have hll : s.data.toList.length = s.size := by show _ = s.data.size; simp
      simp only [← hbS, ← haS] at cC
      by_cases hp : places < (bS.size : Int)
      · have hb : pBad s.data.toList places = true := by unfold pBad; refine decide_eq_true (.inr (.inr (.inr ?_))); omega
        obtain ⟨e1, e2⟩ := pw_bad most hb
        rw [e1, e2]
        clear hb e1 e2 hf hg hF hc hd hv hB hl hbS haS hbl hal hll
        go_enter Tryd.func84, Tryd.ntmps84
        go_wp2_with (first
          | (go_at_call 89; refine (cG _).mono ?_; rintro e w1 ⟨rfl, rfl⟩)
          | (go_at_call 36; refine cO.mono ?_; rintro e w1 ⟨rfl, b1⟩; have k1 := k.later b1)
          | (go_at_call 54; refine (cC _ k1).mono ?_; rintro e w2 ⟨rfl, b2⟩; have B2 := b1.trans (b2.mono b1.size)))
        go_ret2
        exact ⟨rfl, B2⟩
      · have hb : pBad s.data.toList places = false := by unfold pBad; refine decide_eq_false ?_; rintro (q | q | q | q) <;> omega
        obtain ⟨kk, hkk⟩ : ∃ kk : Nat, kk = pK s.data.toList places := ⟨_, rfl⟩
        have hk1 : places - (bS.size : Int) = (kk : Int) := by rw [hkk]; unfold pK; omega
        have hk9 : kk ≤ 9 := by omega
        have hwk : wrap64 (kk : Int) = kk := wrap_in (by unfold I64; omega)
        have cN := fun W => number_any (aS ++ bS) W (by rw [haS, hbS, ba_append, mk_list]; exact hd)
        have e0 : (aS ++ bS).data.toList = a ++ b := by rw [haS, hbS, ba_append, mk_list]
        rw [e0, hv] at cN
        have hV : pV s.data.toList places = (stV s.data.toList : Int) * 10 ^ kk := by unfold pV; rw [hkk]
        obtain ⟨v, hvv⟩ : ∃ v : Int, v = (stV s.data.toList : Int) := ⟨_, rfl⟩
        rw [← hvv] at cN hV
        have hv0 : 0 ≤ v := by omega
        have hn : ¬ 9223372036854775807 < aS.size + bS.size := by omega
        by_cases h1 : I64 v
        · rw [cut64_t h1, ok64_t h1] at cN
          have cT := fun W => tens_any v kk W hv0 h1 hk9
          rw [← hV] at cT
          obtain ⟨V, hVV⟩ : ∃ V : Int, V = pV s.data.toList places := ⟨_, rfl⟩
          rw [← hVV] at cT
          have hG : pGreat s.data.toList places most = (!ok64 V || decide (most < V)) := by unfold pGreat; rw [hVV]
          by_cases h2 : I64 V
          · rw [cut64_t h2, ok64_t h2] at cT
            rw [ok64_t h2] at hG
            by_cases h3 : most < V
            · rw [decide_eq_true h3] at hG
              obtain ⟨e1, e2⟩ := pw_great hb hG
              rw [e1, e2]
              clear hb e1 e2 hf hg hF hc hd hv hB hl hbS haS hbl hal hll hV hVV hG e0 hkk hvv hv0 h1 h2 hk9
              go_enter Tryd.func84, Tryd.ntmps84
              go_wp2_with (first
                | (go_at_call 89; refine (cG _).mono ?_; rintro e w1 ⟨rfl, rfl⟩)
                | (go_at_call 36; refine cO.mono ?_; rintro e w1 ⟨rfl, b1⟩; have k1 := k.later b1)
                | (go_at_call 54; refine (cC _ k1).mono ?_; rintro e w2 ⟨rfl, b2⟩; have B2 := b1.trans (b2.mono b1.size))
                | (go_at_call 90; refine (cN _).mono ?_; rintro e w3 ⟨rfl, b3⟩; have B3 := B2.trans (b3.mono B2.size))
                | (go_at_call 91; rw [hwk]; refine (cT _).mono ?_; rintro e w4 ⟨rfl, rfl⟩))
              go_ret2
              exact ⟨rfl, B3⟩
            · rw [decide_eq_false h3] at hG
              obtain ⟨e1, e2⟩ := pw_fine hb hG
              rw [e1, e2, ← hVV]
              clear hb e1 e2 hf hg hF hc hd hv hB hl hbS haS hbl hal hll hV hVV hG e0 hkk hvv hv0 h1 h2 hk9
              go_enter Tryd.func84, Tryd.ntmps84
              go_wp2_with (first
                | (go_at_call 89; refine (cG _).mono ?_; rintro e w1 ⟨rfl, rfl⟩)
                | (go_at_call 36; refine cO.mono ?_; rintro e w1 ⟨rfl, b1⟩; have k1 := k.later b1)
                | (go_at_call 54; refine (cC _ k1).mono ?_; rintro e w2 ⟨rfl, b2⟩; have B2 := b1.trans (b2.mono b1.size))
                | (go_at_call 90; refine (cN _).mono ?_; rintro e w3 ⟨rfl, b3⟩; have B3 := B2.trans (b3.mono B2.size))
                | (go_at_call 91; rw [hwk]; refine (cT _).mono ?_; rintro e w4 ⟨rfl, rfl⟩))
              go_ret2
              exact ⟨rfl, B3⟩
          · rw [cut64_f h2, ok64_f h2] at cT
            rw [ok64_f h2] at hG
            obtain ⟨e1, e2⟩ := pw_great hb hG
            rw [e1, e2]
            clear hb e1 e2 hf hg hF hc hd hv hB hl hbS haS hbl hal hll hV hVV hG e0 hkk hvv hv0 h1 h2 hk9
            go_enter Tryd.func84, Tryd.ntmps84
            go_wp2_with (first
              | (go_at_call 89; refine (cG _).mono ?_; rintro e w1 ⟨rfl, rfl⟩)
              | (go_at_call 36; refine cO.mono ?_; rintro e w1 ⟨rfl, b1⟩; have k1 := k.later b1)
              | (go_at_call 54; refine (cC _ k1).mono ?_; rintro e w2 ⟨rfl, b2⟩; have B2 := b1.trans (b2.mono b1.size))
              | (go_at_call 90; refine (cN _).mono ?_; rintro e w3 ⟨rfl, b3⟩; have B3 := B2.trans (b3.mono B2.size))
              | (go_at_call 91; rw [hwk]; refine (cT _).mono ?_; rintro e w4 ⟨rfl, rfl⟩))
            go_ret2
            exact ⟨rfl, B3⟩
        · rw [cut64_f h1, ok64_f h1] at cN
          have hbig : ¬ I64 (pV s.data.toList places) := hV ▸ big_pow hv0 h1
          have hG : pGreat s.data.toList places most = true := by unfold pGreat; rw [ok64_f hbig]; rfl
          obtain ⟨e1, e2⟩ := pw_great hb hG
          rw [e1, e2]
          clear hb e1 e2 hf hg hF hc hd hv hB hl hbS haS hbl hal hll hV hG e0 hkk hvv hv0 h1 hk9 hbig
          go_enter Tryd.func84, Tryd.ntmps84
          go_wp2_with (first
            | (go_at_call 89; refine (cG _).mono ?_; rintro e w1 ⟨rfl, rfl⟩)
            | (go_at_call 36; refine cO.mono ?_; rintro e w1 ⟨rfl, b1⟩; have k1 := k.later b1)
            | (go_at_call 54; refine (cC _ k1).mono ?_; rintro e w2 ⟨rfl, b2⟩; have B2 := b1.trans (b2.mono b1.size))
            | (go_at_call 90; refine (cN _).mono ?_; rintro e w3 ⟨rfl, b3⟩; have B3 := B2.trans (b3.mono B2.size)))
          go_ret2
          exact ⟨rfl, B3⟩
  · have hb : pBad s.data.toList places = true := by unfold pBad; refine decide_eq_true ?_; omega
    obtain ⟨e1, e2⟩ := pw_bad most hb
    rw [e1, e2]
    rw [decide_eq_false hg] at cG
    clear hb e1 e2 hg
    go_enter Tryd.func84, Tryd.ntmps84
    go_wp2_with (go_at_call 89; refine (cG _).mono ?_; rintro e w1 ⟨rfl, rfl⟩)
    go_ret2
    exact ⟨rfl, Below.refl _ _⟩
theorem parse_any (s : ByteArray) (places most : Int) (w : World) (k : K w) (hs : s.size ≤ 1000000) :
    Calls Tryd.prog 84 #[.string s, .int .i64 places, .int .i64 most] w fun e w' =>
      e = .returned (.tuple #[.int .i64 (pN s.data.toList places most), .int .i64 (pW s.data.toList places most)]) ∧ Below w.heap.size w w' := parse_mx s places most w k.1 hs
end Go.Proofs.YtinadkgfhoibkaaDoor.Dc
/- Regions that draw their order: what stands ahead reads, or calls what only lays new blocks; what stands behind comes in one forced order and may write. No program is named here. -/
namespace Go.Proofs.YtinadkgfhoibkaaDoor.Tl
open Go Go.Sort Go.RowKit

section
variable {P : Program} {ops : Array Oper} {C : World → Prop}
/-- The head's operations, in whatever order they are picked; then L. -/
def headAny (P : Program) (ops : Array Oper) (C : World → Prop) (n : Nat) (L : Array Bool → Act → Prop) : Nat → Array Bool → Act → Prop
  | 0, done, a => L done a
  | k + 1, done, a => Region.ready .any ops done ≠ [] ∧ ∀ i ∈ Region.ready .any ops done, i < n ∧ qOp P ops C i (headAny P ops C n L k (done.setIfInBounds i true)) a
theorem headAny_runs {n g : Nat} {L : Array Bool → Act → Prop} {R : Exit → Act → World → Prop} (hL : ∀ done a w, C w → L done a → wpAny P .any ops R g done a w) (k : Nat) :
    ∀ (done : Array Bool) (a : Act) (w : World), C w → headAny P ops C n L k done a → wpAny P .any ops R (k + g) done a w := by
  induction k with
  | zero => intro done a w hw h; rw [Nat.zero_add]; exact hL _ _ _ hw h
  | succ k ih =>
    intro done a w hw h
    rw [show k + 1 + g = (k + g) + 1 by omega]
    exact ⟨fun e => absurd e h.1, fun i hi => wpOp_of_qOp hw (fun a' w' hw' h' => ih _ a' w' hw' h') (h.2 i hi).2⟩
/-- An operation of the head that is ready, and yields its value in every world of the class, may be taken first. -/
theorem headAny_first {n i : Nat} {o : Oper} {v : Value} {L : Array Bool → Act → Prop} (ho : ops[i]? = some o) (hsel : ∀ (j : Nat) (o : Oper) cs b, ops[j]? = some o → o.op ≠ .select cs b)
    (hs : Region.sinkB .any ops n = true) (hc : Region.chainB .any ops n = true) (hn : n < ops.size) (hin : i < n) (hend : ∀ done a, L done a → ∀ j ∈ Region.ready .any ops done, n ≤ j) (k : Nat) :
    ∀ (done : Array Bool) (a : Act), HeadInv .any ops n done →
      (∀ j oj, ops[j]? = some oj → j ≠ i → done.getD j true = false → (∀ e ∈ oj.after, Region.binds .any e = true → e.on ≠ i) → o.apart ops oj = true) →
      i ∈ Region.ready .any ops done → YieldsIn P ops C o v a → headAny P ops C n L k (done.setIfInBounds i true) (a.put o.dst v) → headAny P ops C n L (k + 1) done a := by
  have inHead : ∀ (done : Array Bool), HeadInv .any ops n done → i ∈ Region.ready .any ops done → ∀ j ∈ Region.ready .any ops done, j < n := fun done inv hr j hj => by
    rcases Nat.lt_or_ge j n with h | h
    · exact h
    · exact absurd hj (tail_waits hs hc hn inv _ i rfl hin (mem_ready.1 hr).1 j h)
  induction k with
  | zero =>
    intro done a inv _ hr hy H
    refine ⟨fun e => (by rw [e] at hr; cases hr), fun j hj => ⟨inHead done inv hr j hj, ?_⟩⟩
    by_cases hji : j = i
    · subst hji; exact hy.qOp ho H
    · have h1 := hend _ _ H j (ready_mono hj hji)
      have h2 := inHead done inv hr j hj
      omega
  | succ k ih =>
    intro done a inv hfree hr hy H
    refine ⟨fun e => (by rw [e] at hr; cases hr), fun j hj => ⟨inHead done inv hr j hj, ?_⟩⟩
    have hjn := inHead done inv hr j hj
    by_cases hji : j = i
    · subst hji; exact hy.qOp ho H
    · obtain ⟨hjun, oj, hoj, hall⟩ := mem_ready.1 hj
      have hun := (mem_ready.1 hr).1
      have hapart := hfree j oj hoj hji hjun (fun e he hb heq => by
        have h1 := hall e he hb
        rw [heq, getD_both hun] at h1
        cases h1)
      refine qOp_mono (fun a' h3 => ih (done.setIfInBounds j true) a' (inv.set hj hjn) (fun m om hom hmi hmun hno => hfree m om hom hmi ?_ hno) (ready_mono hr (Ne.symm hji)) h3.1 ?_)
        (qOp_put hoj hapart (fun cs b => hsel i o cs b ho) (fun cs b => hsel j oj cs b hoj) hy (H.2 j (ready_mono hj hji)).2)
      · by_cases hjm : j = m
        · subst hjm; exact hjun
        · rwa [getD_set_ne true hjm] at hmun
      · rw [Array.setIfInBounds_comm _ _ hji]
        exact h3.2
theorem headAny_lex {n g : Nat} {L : Act → Prop} (hsel : Region.noSelect ops = true) (hs : Region.sinkB .any ops n = true) (hc : Region.chainB .any ops n = true) (hn : n < ops.size) :
    ∀ (l : List Oper) (k : Nat) (done : Array Bool) (a : Act), (∀ j, j < l.length → l[j]? = ops[k + j]?) → k + l.length = n → HeadInv .any ops n done →
    Region.lexHead .any ops g l.length k done = true → wpQuiet P ops C L l a → headAny P ops C n (fun d a' => Region.seqB .any ops g n d = true ∧ L a') l.length done a
  | [], k, done, a, _, hk, _, hB, h => by
    obtain rfl : k = n := by simpa using hk
    exact ⟨by simpa [Region.lexHead] using hB, h⟩
  | o :: l, k, done, a, hl, hk, inv, hB, h => by
    have h0 : ops[k]? = some o := by simpa using (hl 0 (by simp)).symm
    simp only [List.length_cons, Region.lexHead, Bool.and_eq_true] at hB
    have hkn : k < n := by simp only [List.length_cons] at hk; omega
    have hr : k ∈ Region.ready .any ops done := by simpa using hB.1.1
    have hq : qOp P ops C k (wpQuiet P ops C L l) a := by unfold qOp; simp only [h0]; exact h
    obtain ⟨v, hy, hK⟩ := yieldsIn_of_qOp h0 hq
    exact headAny_first h0 (Region.noSelect_spec hsel) hs hc hn hkn (fun d a' hL => seqB_ready hL.1) l.length done a inv (Region.free_spec h0 hB.1.2) hr hy
      (headAny_lex hsel hs hc hn l (k + 1) _ _ (fun j hj => by have := hl (j + 1) (by simp; omega); simpa [Nat.add_assoc, Nat.add_comm 1 j] using this) (by simp only [List.length_cons] at hk; omega) (inv.set hr hkn) hB.2 hK)
/-- The head by one walk in the order of the text; the tail as a list, in whatever world of the class the head ends. -/
theorem region_tail {id : Nat} {Q : Exit → Act → World → Prop} {a : Act} {w : World} {l : List Oper} (n : Nat) (hm : P.follows .mixedOrders = true) (hB : Region.lexTailB .any l.toArray n = true) (hC : C { w with drawn := w.drawn + 1 })
    (h : wpQuiet P l.toArray C (fun a' => ∀ w', C w' → wpList P l.toArray Q (l.drop n) a' w') (l.take n) a) : (Code.region id l.toArray true).wp P Q a w := by
  simp only [Region.lexTailB, Bool.and_eq_true, decide_eq_true_eq] at hB
  obtain ⟨⟨⟨⟨hsel, hn⟩, hs⟩, hc⟩, hlex⟩ := hB
  have hnl : n < l.length := by simpa using hn
  have htl : (l.take n).length = n := by simp; omega
  have hdl : (l.drop n).length = l.toArray.size - n := by simp
  have inv0 : HeadInv .any l.toArray n (Array.replicate l.toArray.size false) :=
    ⟨by simp, fun j oj _ hl => (by rw [getD_replicate_false] at hl; cases hl), fun t _ ht => getD_in (by simpa using ht) (getD_replicate_false _ _)⟩
  have H := headAny_lex (g := l.toArray.size - n) hsel hs hc hn (l.take n) 0 _ a (fun j hj => by
    have hj' : j < n := by rw [htl] at hj; exact hj
    simp [hj']) (by simpa using htl) inv0 (by rw [htl]; exact hlex) h
  refine wp_region_any hm ?_
  have := headAny_runs (R := Q) (g := l.toArray.size - n) (fun d a' w' hw hL => by
    have := wpAny_of_seq (md := .any) (Q' := Q) (l.drop n) n d a' w' (fun j => by simp [List.getElem?_drop]) (by rw [hdl]; exact hL.1) (hL.2 w' hw)
    rwa [hdl] at this) _ _ _ _ hC H
  rw [htl, show n + (l.toArray.size - n) = l.toArray.size by omega] at this
  exact this
/-- The same, over the worlds in which new blocks have been laid. -/
theorem region_tail_below {id : Nat} {Q : Exit → Act → World → Prop} {a : Act} {w : World} {l : List Oper} (n : Nat) (hm : P.follows .mixedOrders = true) (hB : Region.lexTailB .any l.toArray n = true)
    (h : wpQuiet P l.toArray (fun w' => ∃ p : Regrown, w' = grow (redrawn w p.d) p.os) (fun a' => ∀ w', (∃ p : Regrown, w' = grow (redrawn w p.d) p.os) → wpList P l.toArray Q (l.drop n) a' w') (l.take n) a) : (Code.region id l.toArray true).wp P Q a w :=
  region_tail (C := fun w' => ∃ p : Regrown, w' = grow (redrawn w p.d) p.os) n hm hB ⟨⟨w.drawn + 1, #[]⟩, by rw [grow_empty]; rfl⟩ h
end
end Go.Proofs.YtinadkgfhoibkaaDoor.Tl
/- What package parse does: the reader in memory; what is passed. -/
namespace Go.Proofs.YtinadkgfhoibkaaDoor.Pa
open Go.RowKit Go.Sort P Tl

theorem grown_refl (w : World) (row : Option Nat) : w.grownBy w row := ⟨rfl, rfl, rfl, Nat.le_refl _, fun _ _ _ => rfl⟩
theorem grown_trans {w w1 w2 : World} {row : Option Nat} (a : w.grownBy w1 row) (b : w1.grownBy w2 row) : w.grownBy w2 row :=
  ⟨b.os.trans a.os, b.tape.trans a.tape, b.output.trans a.output, Nat.le_trans a.size b.size, fun k hk hne => (b.block k (Nat.lt_of_lt_of_le hk a.size) hne).trans (a.block k hk hne)⟩
theorem grown_below {w w1 : World} {row : Option Nat} (a : Below w.heap.size w w1) : w.grownBy w1 row := ⟨a.os, a.tape, a.output, a.size, fun k hk _ => a.block k hk⟩
theorem grown_set (w : World) (b k : Nat) (u : Value) : w.grownBy (w.setCell ⟨b, k, none⟩ u) (some b) :=
  ⟨rfl, rfl, rfl, by simp, fun j _ hne => Below.heap_setCell w ⟨b, k, none⟩ u j (fun e => hne (by rw [e]))⟩
theorem grown_put {w w2 : World} {row : Option Nat} (h : w.grownBy w2 row) {k : Nat} (hk : w.heap.size ≤ k) (o : Nat) (u : Value) : w.grownBy (w2.setCell ⟨k, o, none⟩ u) row :=
  ⟨h.os, h.tape, h.output, by simpa using h.size, fun j hj hne => (Below.heap_setCell w2 ⟨k, o, none⟩ u j (by show j ≠ k; omega)).trans (h.block j hj hne)⟩
/-- The modes' words stand as the program's text lays them. -/
def Md (w : World) : Prop := ∀ j l, modes[j]? = some l → w.cell? ⟨1, j, none⟩ = some (.string ⟨l.toArray⟩)
/-- What the reader asks of the world's variables. -/
def Ky (w : World) : Prop := Dc.Mx w ∧ Md w
theorem Ky.blocks {w w' : World} (h : Ky w) (h1 : w'.heap[4]? = w.heap[4]?) (h2 : w'.heap[1]? = w.heap[1]?) : Ky w' := by
  obtain ⟨⟨m, hm⟩, hd⟩ := h
  exact ⟨⟨m, (World.cell?_of_block h1).trans hm⟩, fun j l hj => (World.cell?_of_block h2).trans (hd j l hj)⟩
theorem Ky.lt {w : World} (h : Ky w) : 4 < w.heap.size ∧ 1 < w.heap.size := by
  obtain ⟨⟨m, hm⟩, hd⟩ := h
  exact ⟨World.block_lt_of_cell? w _ hm, World.block_lt_of_cell? w _ (hd 0 _ rfl)⟩
theorem Ky.later {w w' : World} (h : Ky w) (b : Below w.heap.size w w') : Ky w' := h.blocks (b.block _ h.lt.1) (b.block _ h.lt.2)
/-- The reader in memory: its block, and the tokens'. -/
structure Rd (w : World) (b tb cap : Nat) (ts : List Tok) (s : St) : Prop where
  lt : b < w.heap.size
  c0 : w.cell? ⟨b, 0, none⟩ = some (.slice (some ⟨tb, vw ts s * 4, none⟩) (ts.length - vw ts s) (cap - vw ts s))
  c1 : w.cell? ⟨b, 1, none⟩ = some (.int .i64 s.err)
  c2 : w.cell? ⟨b, 2, none⟩ = some (.int .i64 s.ln)
  c3 : w.cell? ⟨b, 3, none⟩ = some (.int .i64 s.cl)
  fr : ∀ j, w.frozen? ⟨b, j, none⟩ = false
  tlt : tb < b
  tok : ∀ j t, ts[j]? = some t → w.cell? ⟨tb, j * 4, none⟩ = some (.int .i64 t.k) ∧ w.cell? ⟨tb, j * 4 + 1, none⟩ = some (.string ⟨t.t.toArray⟩) ∧ w.cell? ⟨tb, j * 4 + 2, none⟩ = some (.int .i64 t.ln) ∧ w.cell? ⟨tb, j * 4 + 3, none⟩ = some (.int .i64 t.cl)
  cnt : ts.length ≤ 100000
  room : ts.length ≤ cap ∧ cap ≤ 9223372036854775807
  str : ∀ t ∈ ts, t.t.length ≤ 1000000
  knd : Knd ts
  ok : Ok ts s
  z : s.err = 0 → s.ln = 0 ∧ s.cl = 0
  ky : Ky w
  far : 4 < b ∧ 1 < b
section
variable {w w' : World} {b tb cap : Nat} {ts : List Tok} {s s' : St}
theorem Rd.of_grown (h : Rd w b tb cap ts s) (hg : w.grownBy w' (some b)) (ok : Ok ts s') (z : s'.err = 0 → s'.ln = 0 ∧ s'.cl = 0)
    (c0 : w'.cell? ⟨b, 0, none⟩ = some (.slice (some ⟨tb, vw ts s' * 4, none⟩) (ts.length - vw ts s') (cap - vw ts s'))) (c1 : w'.cell? ⟨b, 1, none⟩ = some (.int .i64 s'.err)) (c2 : w'.cell? ⟨b, 2, none⟩ = some (.int .i64 s'.ln))
    (c3 : w'.cell? ⟨b, 3, none⟩ = some (.int .i64 s'.cl)) (fr : ∀ j, w'.frozen? ⟨b, j, none⟩ = false) : Rd w' b tb cap ts s' := by
  have l1 := h.tlt
  have l2 := h.lt
  have hb : w'.heap[tb]? = w.heap[tb]? := hg.block tb (by omega) (fun e => by have := Option.some.inj e; omega)
  have hc : ∀ o, w'.cell? ⟨tb, o, none⟩ = w.cell? ⟨tb, o, none⟩ := fun o => World.cell?_of_block hb
  exact ⟨Nat.lt_of_lt_of_le h.lt hg.size, c0, c1, c2, c3, fr, h.tlt, fun j t hj => by rw [hc, hc, hc, hc]; exact h.tok j t hj, h.cnt, h.room, h.str, h.knd, ok, z,
    h.ky.blocks (hg.block _ h.ky.lt.1 (fun e => by have := Option.some.inj e; have := h.far.1; omega)) (hg.block _ h.ky.lt.2 (fun e => by have := Option.some.inj e; have := h.far.2; omega)), h.far⟩
/-- Where blocks behind the reader's are written, or new ones made. -/
theorem Rd.other {row : Option Nat} (h : Rd w b tb cap ts s) (hg : w.grownBy w' row) (h1 : ∀ k, row = some k → b < k) : Rd w' b tb cap ts s := by
  have nb : ∀ k, k ≤ b → some k ≠ row := fun k hk e => by have := h1 k e.symm; omega
  have e := hg.block b h.lt (nb b (Nat.le_refl _))
  have hc : ∀ o, w'.cell? ⟨b, o, none⟩ = w.cell? ⟨b, o, none⟩ := fun o => World.cell?_of_block e
  have hf : ∀ o, w'.frozen? ⟨b, o, none⟩ = w.frozen? ⟨b, o, none⟩ := fun o => World.frozen?_of_block e
  have l1 := h.tlt
  have l2 := h.lt
  have e2 := hg.block tb (by omega) (nb tb (by omega))
  have hc2 : ∀ o, w'.cell? ⟨tb, o, none⟩ = w.cell? ⟨tb, o, none⟩ := fun o => World.cell?_of_block e2
  exact ⟨Nat.lt_of_lt_of_le h.lt hg.size, by rw [hc]; exact h.c0, by rw [hc]; exact h.c1, by rw [hc]; exact h.c2, by rw [hc]; exact h.c3, fun j => by rw [hf]; exact h.fr j, h.tlt,
    fun j t hj => by rw [hc2, hc2, hc2, hc2]; exact h.tok j t hj, h.cnt, h.room, h.str, h.knd, h.ok, h.z,
    h.ky.blocks (hg.block _ h.ky.lt.1 (nb _ (Nat.le_of_lt h.far.1))) (hg.block _ h.ky.lt.2 (nb _ (Nat.le_of_lt h.far.2))), h.far⟩
theorem Rd.on (h : Rd w b tb cap ts s) (hb : Below w.heap.size w w') : Rd w' b tb cap ts s := h.other (row := none) (grown_below hb) (fun _ e => by cases e)
theorem Rd.aside (h : Rd w b tb cap ts s) {k : Nat} (hk : b < k) (o : Nat) (u : Value) : Rd (w.setCell ⟨k, o, none⟩ u) b tb cap ts s :=
  h.other (grown_set _ _ _ _) (fun j e => by have := Option.some.inj e; omega)
theorem Rd.far' (h : Rd w' b tb cap ts s) (hb : b < w.heap.size) {k : Nat} (hk : w.heap.size ≤ k) (o : Nat) (u : Value) : Rd (w'.setCell ⟨k, o, none⟩ u) b tb cap ts s := h.aside (by omega) o u
/-- The token that comes next. -/
theorem Rd.at (h : Rd w b tb cap ts s) : w.cell? ⟨tb, vw ts s * 4, none⟩ = some (.int .i64 (vk ts s).k) ∧ w.cell? ⟨tb, vw ts s * 4 + 1, none⟩ = some (.string ⟨(vk ts s).t.toArray⟩) ∧ w.cell? ⟨tb, vw ts s * 4 + 2, none⟩ = some (.int .i64 (vk ts s).ln) ∧ w.cell? ⟨tb, vw ts s * 4 + 3, none⟩ = some (.int .i64 (vk ts s).cl) := h.tok _ _ (vk_at h.ok)
theorem Rd.str_at (h : Rd w b tb cap ts s) : (vk ts s).t.length ≤ 1000000 := h.str _ (List.mem_of_getElem? (vk_at h.ok))
/-- One more token is over. -/
theorem Rd.step (h : Rd w b tb cap ts s) (e : s.err = 0) (ok : Ok ts s.next) : Rd (w.setCell ⟨b, 0, none⟩ (.slice (some ⟨tb, s.i * 4 + 4, none⟩) (ts.length - s.i - 1) (cap - s.i - 1))) b tb cap ts s.next := by
  have c0 := h.c0
  have c1 := h.c1
  have c2 := h.c2
  have c3 := h.c3
  have hl := h.lt
  have e1 : vw ts s.next = s.i + 1 := vw_ok (s := s.next) e
  refine h.of_grown (grown_set _ _ _ _) ok h.z ?_ ?_ ?_ ?_ ?_
  · rw [e1, show (s.i + 1) * 4 = s.i * 4 + 4 by omega, show ts.length - (s.i + 1) = ts.length - s.i - 1 by omega, show cap - (s.i + 1) = cap - s.i - 1 by omega]
    go_simp
  · show _ = some (Value.int .i64 s.err); go_simp
  · show _ = some (Value.int .i64 s.ln); go_simp
  · show _ = some (Value.int .i64 s.cl); go_simp
  · intro j; simpa using h.fr j
/-- Something is wrong: what comes next is told, and the end alone is left. -/
theorem Rd.refused (h : Rd w b tb cap ts s) (e : s.err = 0) {x : Int} (hx : x ≠ 0) (hw : w.grownBy w' (some b)) (c0 : w'.cell? ⟨b, 0, none⟩ = some (.slice (some ⟨tb, (ts.length - 1) * 4, none⟩) 1 (cap - (ts.length - 1))))
    (c1 : w'.cell? ⟨b, 1, none⟩ = some (.int .i64 x)) (c2 : w'.cell? ⟨b, 2, none⟩ = some (.int .i64 (tk ts s).ln)) (c3 : w'.cell? ⟨b, 3, none⟩ = some (.int .i64 (tk ts s).cl)) (fr : ∀ j, w'.frozen? ⟨b, j, none⟩ = false) : Rd w' b tb cap ts (wrg ts s x) := by
  have e1 : wrg ts s x = { s with err := x, ln := (tk ts s).ln, cl := (tk ts s).cl } := if_pos e
  have e2 : vw ts (wrg ts s x) = ts.length - 1 := vw_bad (by rw [e1]; exact hx)
  have hl := h.ok.lt
  refine h.of_grown hw (h.ok.wrg x) (fun c => absurd (by rw [e1] at c; exact c) hx) ?_ ?_ ?_ ?_ fr
  · rw [e2, c0, show ts.length - (ts.length - 1) = 1 by omega]
  · rw [e1]; exact c1
  · rw [e1]; exact c2
  · rw [e1]; exact c3
/-- Behind a fault it does not matter how many tokens are over. -/
theorem Rd.behind (h : Rd w b tb cap ts s) (e : ¬ s.err = 0) (ok : Ok ts s.next) : Rd w b tb cap ts s.next := by
  have e1 : vw ts s.next = vw ts s := (vw_bad (s := s.next) e).trans (vw_bad e).symm
  refine h.of_grown (grown_refl _ _) ok h.z ?_ h.c1 h.c2 h.c3 h.fr
  rw [e1]; exact h.c0
end
theorem pass_any (b tb cap : Nat) (ts : List Tok) (s : St) (w : World) (h : Rd w b tb cap ts s) (e : s.err = 0) (ok : Ok ts s.next) :
    Calls Tryd.prog 40 #[.pointer (some ⟨b, 0, none⟩)] w fun x w' => x = .returned (.tuple #[]) ∧ Rd w' b tb cap ts s.next ∧ w.grownBy w' (some b) := by
  have H := hid h
  have hb := h.lt
  have c0 := h.c0
  rw [vw_ok e] at c0
  have f0 := h.fr 0
  have i1 := ok.lt
  have i2 : s.i + 1 < ts.length := i1
  have r1 := h.room.1
  have HE := hid e
  have HO := hid ok
  have hc1 : 1 ≤ ts.length - s.i := by omega
  have hc2 : ¬ cap - s.i = 1 := by omega
  clear h e ok i1
  go_enter Tryd.func40, Tryd.ntmps40
  go_wp2
  go_end0
  exact ⟨rfl, H.out.step HE.out HO.out, grown_set _ _ _ _⟩
end Go.Proofs.YtinadkgfhoibkaaDoor.Pa
/- What package parse does: what is refused. -/
namespace Go.Proofs.YtinadkgfhoibkaaDoor.Pa
open Go.RowKit Go.Sort P Tl

set_option maxHeartbeats 1000000 in
theorem refuse_any (b tb cap : Nat) (ts : List Tok) (s : St) (x : Int) (hx : x ≠ 0) (w : World) (h : Rd w b tb cap ts s) :
    Calls Tryd.prog 39 #[.pointer (some ⟨b, 0, none⟩), .int .i64 x] w fun e w' => e = .returned (.tuple #[]) ∧ Rd w' b tb cap ts (wrg ts s x) ∧ w.grownBy w' (some b) := by
  have H := hid h
  have hb := h.lt
  have c1 := h.c1
  have c2 := h.c2
  have c3 := h.c3
  by_cases h0 : s.err = 0
  · rw [h0] at c1
    rw [(h.z h0).1] at c2
    rw [(h.z h0).2] at c3
    have HX := hid hx
    have HE := hid h0
    have c0 := h.c0
    rw [vw_ok h0] at c0
    have i1 := h.ok.lt
    have r1 := h.room.1
    have hc1 : 1 ≤ ts.length - s.i := by omega
    have hcn := h.cnt
    obtain ⟨a0, a1, a2, a3⟩ := h.at
    rw [vw_ok h0, vk_ok h0] at a2 a3
    clear hx h0 h a0 a1
    go_enter Tryd.func39, Tryd.ntmps39
    go_upto_region 1 with fail
    have k0 := cell_regrown c0
    have k2 := cell_regrown a2
    have k3 := cell_regrown a3
    refine region_tail_below 19 (by kernel_rfl) (by kernel_rfl) ?_
    simp only [List.take_succ_cons, List.take_zero, List.drop_succ_cons, List.drop_zero]
    repeat (go_big_quiet_step (fail))
    refine wpQuiet_nil ?_
    intro _ hw'
    obtain ⟨⟨dq, osq⟩, hw''⟩ := hw'
    subst hw''
    obtain ⟨w1, hw1⟩ : ∃ w1, w1 = grow (redrawn w dq) osq := ⟨_, rfl⟩
    have b1 : Below w.heap.size w w1 := by rw [hw1]; exact below_regrown w dq osq
    rw [← hw1]
    have q0 := c0
    clear k0 k2 k3 a2 a3 c0 c1 c2 c3 hb
    have c0 : w1.cell? ⟨b, 0, none⟩ = _ := (b1.cell H.out.lt).trans q0
    have c1 : w1.cell? ⟨b, 1, none⟩ = _ := (b1.cell H.out.lt).trans H.out.c1
    have c2 : w1.cell? ⟨b, 2, none⟩ = _ := (b1.cell H.out.lt).trans H.out.c2
    have c3 : w1.cell? ⟨b, 3, none⟩ = _ := (b1.cell H.out.lt).trans H.out.c3
    have hb : b < w1.heap.size := Nat.lt_of_lt_of_le H.out.lt b1.size
    have fr : ∀ j, w1.frozen? ⟨b, j, none⟩ = false := fun j => (b1.frozen H.out.lt).trans (H.out.fr j)
    have f1 := fr 1
    have f2 := fr 2
    have f3 := fr 3
    have HB1 := hid b1
    have FR := hid fr
    clear q0 hw1 b1 fr
    go_wp2
    obtain ⟨w2, hw2⟩ : ∃ w2, w2 = ((w1.setCell ⟨b, 1, none⟩ (.int .i64 x)).setCell ⟨b, 2, none⟩ (.int .i64 (tk ts s).ln)).setCell ⟨b, 3, none⟩ (.int .i64 (tk ts s).cl) := ⟨_, rfl⟩
    rw [← hw2]
    have e0 : w2.cell? ⟨b, 0, none⟩ = some (.slice (some ⟨tb, s.i * 4, none⟩) (ts.length - s.i) (cap - s.i)) := by rw [hw2]; go_simp
    have e1 : w2.cell? ⟨b, 1, none⟩ = some (.int .i64 x) := by rw [hw2]; go_simp
    have e2 : w2.cell? ⟨b, 2, none⟩ = some (.int .i64 (tk ts s).ln) := by rw [hw2]; go_simp
    have e3 : w2.cell? ⟨b, 3, none⟩ = some (.int .i64 (tk ts s).cl) := by rw [hw2]; go_simp
    have fr : ∀ j, w2.frozen? ⟨b, j, none⟩ = false := fun j => by rw [hw2]; simpa using FR.out j
    have g2 : w.grownBy w2 (some b) := by rw [hw2]; exact grown_trans (grown_below HB1.out) (grown_trans (grown_set _ _ _ _) (grown_trans (grown_set _ _ _ _) (grown_set _ _ _ _)))
    have hb2 : b < w2.heap.size := Nat.lt_of_lt_of_le H.out.lt g2.size
    have E1 := hid e1
    have E2 := hid e2
    have E3 := hid e3
    have HF := hid fr
    have G2 := hid g2
    have k0 := cell_regrown e0
    clear c0 c1 c2 c3 f1 f2 f3 hb hw2 FR e1 e2 e3 fr g2
    refine region_tail_below 14 (by kernel_rfl) (by kernel_rfl) ?_
    simp only [List.take_succ_cons, List.take_zero, List.drop_succ_cons, List.drop_zero]
    repeat (go_big_quiet_step (fail))
    refine wpQuiet_nil ?_
    intro _ hw'
    obtain ⟨⟨dq, osq⟩, hw''⟩ := hw'
    subst hw''
    obtain ⟨w3, hw3⟩ : ∃ w3, w3 = grow (redrawn w2 dq) osq := ⟨_, rfl⟩
    have b3 : Below w2.heap.size w2 w3 := by rw [hw3]; exact below_regrown w2 dq osq
    rw [← hw3]
    have hb3 : b < w3.heap.size := Nat.lt_of_lt_of_le hb2 b3.size
    have f0 : w3.frozen? ⟨b, 0, none⟩ = false := (b3.frozen hb2).trans (HF.out 0)
    have c0 : w3.cell? ⟨b, 0, none⟩ = _ := (b3.cell hb2).trans e0
    have HB3 := hid b3
    have HB := hid hb2
    clear hw3 b3 hb2 k0
    go_wp2
    go_end0
    have g3 : w.grownBy (w3.setCell ⟨b, 0, none⟩ (.slice (some ⟨tb, s.i * 4 + (ts.length - s.i - 1) * 4, none⟩) (ts.length - s.i - (ts.length - s.i - 1)) (cap - s.i - (ts.length - s.i - 1)))) (some b) := grown_trans G2.out (grown_trans (grown_below HB3.out) (grown_set _ _ _ _))
    refine ⟨rfl, H.out.refused HE.out HX.out g3 ?_ ?_ ?_ ?_ ?_, g3⟩
    · rw [show s.i * 4 + (ts.length - s.i - 1) * 4 = (ts.length - 1) * 4 by omega, show ts.length - s.i - (ts.length - s.i - 1) = 1 by omega, show cap - s.i - (ts.length - s.i - 1) = cap - (ts.length - 1) by omega]
      go_simp
    · have d : w3.cell? ⟨b, 1, none⟩ = _ := (HB3.out.cell HB.out).trans E1.out
      go_simp
    · have d : w3.cell? ⟨b, 2, none⟩ = _ := (HB3.out.cell HB.out).trans E2.out
      go_simp
    · have d : w3.cell? ⟨b, 3, none⟩ = _ := (HB3.out.cell HB.out).trans E3.out
      go_simp
    · intro j
      have d : w3.frozen? ⟨b, j, none⟩ = false := (HB3.out.frozen HB.out).trans (HF.out j)
      simpa using d
  · have he : wrg ts s x = s := by unfold wrg; rw [if_neg h0]
    rw [he]
    have z : (s.err == 0) = false := by simpa using h0
    clear he h h0 hx
    go_enter Tryd.func39, Tryd.ntmps39
    go_wp2
    (try simp only [Exit.inBlock, Exit.then]); refine bodyPost_ret (results_none rfl _ _ _) rfl ?_
    exact ⟨rfl, H.out, grown_refl _ _⟩
end Go.Proofs.YtinadkgfhoibkaaDoor.Pa
/- What package date does. -/
namespace Go.Proofs.YtinadkgfhoibkaaDoor.Dt
open Go.RowKit Go.Sort P

theorem leap_any (y : Int) (w : World) :
    Calls Tryd.prog 83 #[.int .i64 y] w fun e w' => e = .returned (.bool (leap y)) ∧ w' = w := by
  go_enter Tryd.func83, Tryd.ntmps83
  go_wp2
  all_goals
    go_ret
    refine ⟨ret_b ?_, rfl⟩
    unfold leap
    simp_all [tm0]
    try exact tmb _ _
theorem days_any (y m : Int) (w : World) :
    Calls Tryd.prog 74 #[.int .i64 y, .int .i64 m] w fun e w' => e = .returned (.int .i64 (days y m)) ∧ w' = w := by
  go_enter Tryd.func74, Tryd.ntmps74
  go_wp2_with (go_at_call 83; refine (leap_any _ _).mono ?_; rintro e w' ⟨rfl, rfl⟩)
  all_goals
    go_ret
    refine ⟨ret_i ?_, rfl⟩
    unfold days lp
    simp_all
    try omega
theorem good_any (y m d : Int) (w : World) :
    Calls Tryd.prog 60 #[dv y m d] w fun e w' => e = .returned (.bool (good y m d)) ∧ Below w.heap.size w w' := by
  unfold dv
  by_cases h : 1 ≤ y ∧ y ≤ 9999 ∧ 1 ≤ d
  · obtain ⟨h1, h2, h3⟩ := h
    have b1 : decide (1 ≤ y) = true := decide_eq_true h1
    have b2 : decide (y ≤ 9999) = true := decide_eq_true h2
    have b3 : decide (1 ≤ d) = true := decide_eq_true h3
    have g : good y m d = decide (d ≤ days y m) := by unfold good; rw [decide_eq_decide]; omega
    have G := hid g
    clear g
    go_enter Tryd.func60, Tryd.ntmps60
    go_wp2
    go_quiet ((go_at_call 74; exact Calls.quiet_of_same (days_any _ _ _)))
    go_wp2
    go_ret
    exact ⟨ret_b G.out.symm, bel_drewN ((Below.refl _ _).alloc (Nat.le_refl _) _) _⟩
  · have g : good y m d = false := by unfold good; rw [decide_eq_false_iff_not]; omega
    have G := hid g
    clear g
    rcases Decidable.em (1 ≤ y) with h1 | h1
    · rcases Decidable.em (y ≤ 9999) with h2 | h2
      · have h3 : ¬ 1 ≤ d := fun h3 => h ⟨h1, h2, h3⟩
        have b1 : decide (1 ≤ y) = true := decide_eq_true h1
        have b2 : decide (y ≤ 9999) = true := decide_eq_true h2
        have b3 : decide (1 ≤ d) = false := decide_eq_false h3
        clear h
        go_enter Tryd.func60, Tryd.ntmps60
        go_wp2
        go_quiet (fail)
        go_wp2
        go_ret
        exact ⟨ret_b G.out.symm, bel_drewN ((Below.refl _ _).alloc (Nat.le_refl _) _) _⟩
      · have b1 : decide (1 ≤ y) = true := decide_eq_true h1
        have b2 : decide (y ≤ 9999) = false := decide_eq_false h2
        clear h
        go_enter Tryd.func60, Tryd.ntmps60
        go_wp2
        go_quiet (fail)
        go_wp2
        go_ret
        exact ⟨ret_b G.out.symm, bel_drewN ((Below.refl _ _).alloc (Nat.le_refl _) _) _⟩
    · have b1 : decide (1 ≤ y) = false := decide_eq_false h1
      clear h
      go_enter Tryd.func60, Tryd.ntmps60
      go_wp2
      go_quiet (fail)
      go_wp2
      go_ret
      exact ⟨ret_b G.out.symm, bel_drewN ((Below.refl _ _).alloc (Nat.le_refl _) _) _⟩
end Go.Proofs.YtinadkgfhoibkaaDoor.Dt
