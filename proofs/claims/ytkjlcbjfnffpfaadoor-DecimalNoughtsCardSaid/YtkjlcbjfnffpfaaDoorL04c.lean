/- The laws of layer 4, out of what package decimal answers ('Dec'): DecimalNoughts. -/
import Derived.Test.YtkjlcbjfnffpfaaDoorL04b
namespace Go.Proofs.YtkjlcbjfnffpfaaDoor.L04
open Go.RowKit P R4

set_option maxHeartbeats 2000000 in
theorem noughts_walk {K : World → Prop} (D : Dec K) (n : Int) (wn : (Lit.int .i64 n).wf = true) (places : Int) (wp : (Lit.int .i64 places).wf = true) (more : Int) (w : World) (k : K w) :
    Calls Tryd.prog 5 #[.int .i64 n, .int .i64 places, .int .i64 more] w fun e w' => e = .returned (.bool true) ∧ Below w.heap.size w w' := by
  have cA := alive_any D w k
  have hn := i64_of_wf wn
  have hp := i64_of_wf wp
  clear wn wp
  by_cases h : n < 0 ∨ places < 1 ∨ 9 < places ∨ more < 0 ∨ 12 < more
  · have h' : n < 0 ∨ (¬ n < 0 ∧ places < 1) ∨ (¬ n < 0 ∧ ¬ places < 1 ∧ 9 < places) ∨ (¬ n < 0 ∧ ¬ places < 1 ∧ ¬ 9 < places ∧ more < 0) ∨ (¬ n < 0 ∧ ¬ places < 1 ∧ ¬ 9 < places ∧ ¬ more < 0 ∧ 12 < more) := by omega
    clear h
    go_enter Tryd.func5, Tryd.ntmps5
    rcases h' with h | ⟨h0, h⟩ | ⟨h0, h, h1⟩ | ⟨h0, h, h1, h2⟩ | ⟨h0, h, h1, h2, h3⟩
    all_goals
      go_wp2_with (go_at_call 7; refine cA.mono ?_; rintro e w1 ⟨rfl, b1⟩)
      go_ret
      exact ⟨rfl, b1⟩
  · have h0 : 0 ≤ n := by omega
    have p0 : 1 ≤ places := by omega
    have p9 : places ≤ 9 := by omega
    have m0 : 0 ≤ more := by omega
    have m1 : more ≤ 12 := by omega
    have hnn : ((n.toNat : Nat) : Int) = n := by omega
    have hpp : ((places.toNat : Nat) : Int) = places := by omega
    have hlen : (tx n.toNat places.toNat).length ≤ 30 := tx_length (by unfold I64 at hn; omega) (by omega)
    have hform := tx_fm n.toNat places.toNat
    have cX := fun W kk => D.yes n places W kk h0 hn (by omega) p9
    have hdl : (Lib.decDigits (n.toNat / 10 ^ places.toNat)).length ≤ 20 := by
      have h1 : n.toNat / 10 ^ places.toNat ≤ n.toNat := Nat.div_le_self _ _
      rw [Lib.decDigits_length]
      exact Lib.nDigits_le20 _ (by unfold I64 at hn; omega)
    have hf1 := f0_le (n := n.toNat) (p := places.toNat) (by omega)
    have hbsl : (bs n.toNat places.toNat).length = (Lib.decDigits (n.toNat / 10 ^ places.toNat)).length + 1 + (f0 n.toNat places.toNat).length := by
      unfold bs
      rw [List.length_append, List.length_cons]
      omega
    have hpt := bs_point n.toNat places.toNat
    obtain ⟨X, hX⟩ : ∃ X : ByteArray, X = ⟨(tx n.toNat places.toNat).toArray⟩ := ⟨_, rfl⟩
    obtain ⟨S, hS⟩ : ∃ S : ByteArray, S = ⟨(bs n.toNat places.toNat).toArray⟩ := ⟨_, rfl⟩
    have hXl : X.data.toList = tx n.toNat places.toNat := by rw [hX]
    have hXz : X.size ≤ 30 := by rw [hX, ba_size]; exact hlen
    have hSl : S.data.toList = bs n.toNat places.toNat := by rw [hS]
    have hSz : S.size = (bs n.toNat places.toNat).length := by rw [hS, ba_size]
    have hbyte := byte_at S
    have cF := fun W kk => D.of X W kk (by omega)
    simp only [hXl] at cF
    simp only [← hX] at cX
    rw [hSl] at hbyte
    have hcat : fs n.toNat places.toNat = [] → X ++ ⟨#[46, 48]⟩ = S := fun e => by
      rw [hX, hS, show (⟨#[46, 48]⟩ : ByteArray) = ⟨([46, 48] : List UInt8).toArray⟩ from rfl, ba_append, tx_bs_whole e]
    have hsame : fs n.toNat places.toNat ≠ [] → X = S := fun e => by rw [hX, hS, tx_bs e]
    obtain ⟨F, hF⟩ : ∃ F : Int, F = (fm (tx n.toNat places.toNat) : Int) := ⟨_, rfl⟩
    simp only [← hF] at cF
    obtain ⟨dl, hdl'⟩ : ∃ dl, dl = (Lib.decDigits (n.toNat / 10 ^ places.toNat)).length := ⟨_, rfl⟩
    obtain ⟨fl, hfl⟩ : ∃ fl, fl = (f0 n.toNat places.toNat).length := ⟨_, rfl⟩
    rw [← hdl'] at hdl hbsl
    rw [← hfl] at hbsl hf1
    rw [hbsl] at hSz hpt
    simp only [← hdl'] at hpt
    have hSz2 : (S.size : Int) = dl + 1 + fl := by omega
    have hSb : S.size ≤ 31 := by omega
    have HS := hid hS
    have Hfl := hid hfl
    -- the answer on the longer text
    have cP : ∀ W, K W → Calls Tryd.prog 8 #[.string ⟨(bs n.toNat places.toNat ++ zs more.toNat).toArray⟩, .int .i64 places, .int .i64 9223372036854775807] W fun e w' => e = .returned (.tuple #[.int .i64 (if (places : Int) < fl + more then 0 else n), .int .i64 (if (places : Int) < fl + more then 1 else 0)]) ∧ Below W.heap.size W w' := fun W kk => by
      have hP := D.parse ⟨(bs n.toNat places.toNat ++ zs more.toNat).toArray⟩ places 9223372036854775807 W kk (by rw [ba_size, List.length_append, hbsl, show (zs more.toNat).length = more.toNat by simp [zs]]; omega) hp (by unfold I64; omega)
      rw [list_of] at hP
      by_cases hc : (places : Int) < fl + more
      · obtain ⟨e1, e2⟩ := bz_bad (n := n.toNat) (p := places.toNat) (k := more.toNat) (by rw [← Hfl.out]; omega) 9223372036854775807
        rw [hpp] at e1 e2
        rw [e1, e2] at hP
        rw [if_pos hc, if_pos hc]
        exact hP
      · obtain ⟨e1, e2⟩ := bz_fine (n := n.toNat) (p := places.toNat) (k := more.toNat) (by omega) (by rw [← Hfl.out]; omega) 9223372036854775807 (by rw [hnn]; exact hn) (by rw [hnn]; exact hn.2)
        rw [hpp] at e1 e2
        rw [hnn] at e1
        rw [e1, e2] at hP
        rw [if_neg hc, if_neg hc]
        exact hP
    have hcase : (F = 1 ∧ X ++ ⟨#[46, 48]⟩ = S) ∨ (F ≠ 1 ∧ X = S) := by
      by_cases e : fs n.toNat places.toNat = []
      · exact .inl ⟨by rw [hF, hform, if_pos e]; rfl, hcat e⟩
      · exact .inr ⟨by rw [hF, hform, if_neg e]; decide, hsame e⟩
    clear hS hX hXl hSl hF hform hdl' hfl hcat hsame hlen hSz hnn hpp h
    have hgt : ((fl : Int) + more ≤ places) ∨ ((places : Int) < fl + more) := by omega
    have B1 : Hid (∀ Z : ByteArray, ∀ j : Int, 0 ≤ j → Z = ⟨(bs n.toNat places.toNat ++ zs j.toNat).toArray⟩ → Z ++ ⟨#[48]⟩ = ⟨(bs n.toNat places.toNat ++ zs (j + 1).toNat).toArray⟩) := hid (fun Z j hj hZ => by
      rw [hZ, show (⟨#[48]⟩ : ByteArray) = ⟨([48] : List UInt8).toArray⟩ from rfl, ba_append, show (j + 1).toNat = j.toNat + 1 by omega, zs_snoc, List.append_assoc])
    rcases hcase with ⟨rfl, hcat⟩ | ⟨hF, rfl⟩
    · have hns : ¬ 9223372036854775807 < X.size + 2 := by omega
      go_enter Tryd.func5, Tryd.ntmps5
      go_wp2_with (first
        | (go_at_call 7; refine cA.mono ?_; rintro e w1 ⟨rfl, b1⟩; have k1 := D.keep k b1)
        | (go_at_call 12; refine (cX _ k1).mono ?_; rintro e w2 ⟨rfl, b2⟩; have B2 := below_on b1 b2; have k2 := D.keep k1 b2)
        | (go_at_call 10; refine (cF _ k2).mono ?_; rintro e w3 ⟨rfl, b3⟩; have B3 := below_on B2 b3; have k3 := D.keep k2 b3))
      go_loop [8, 9] (fun b i => ∃ b' i' : Int, b = .int .i64 b' ∧ i = .int .i64 i' ∧ 0 ≤ i' ∧ i' ≤ dl + 1 + fl ∧ (i' ≤ dl → b' = 0) ∧ (dl < i' → b' = fl)) (fun _ i => ((dl : Int) + 1 + fl - intOf i).toNat)
      case atStart => exact ⟨0, 0, rfl, rfl, by omega, by omega, by omega, by omega⟩
      case round =>
        obtain ⟨b', i', rfl, rfl, i0, i1, bz, bf⟩ := hrel
        by_cases hi : i' < dl + 1 + fl
        · have hb := hbyte i' i0 (by omega)
          have hp46 := hpt i'.toNat (by omega)
          obtain ⟨c, hc⟩ : ∃ c, c = (bs n.toNat places.toNat).getD i'.toNat 0 := ⟨_, rfl⟩
          rw [← hc] at hp46
          simp only [← hc] at hb
          obtain ⟨z, hz⟩ : ∃ z : Int, z = (c.toNat : Int) := ⟨_, rfl⟩
          simp only [← hz] at hb
          by_cases hd : i' = dl
          · have b1' : (z == 46) = true := by rw [hz, hp46.2 (by omega)]; rfl
            have hd1 : i' ≤ dl := by omega
            have hd2 : (dl : Int) ≤ i' := by omega
            clear hc hz hp46 hbyte bz bf hd
            go_wp2
            go_round
            case rel => exact ⟨_, i' + 1, rfl, rfl, by omega, by omega, by omega, by omega⟩
            case measure => simp [intOf]; omega
          · have b1' : (z == 46) = false := by
              rw [beq_eq_false_iff_ne]
              intro e
              have : i'.toNat = dl := hp46.1 (UInt8.toNat_inj.1 (by show _ = 46; omega))
              omega
            clear hc hz hp46 hbyte
            go_wp2
            go_round
            case rel => exact ⟨b', i' + 1, rfl, rfl, by omega, by omega, by omega, by omega⟩
            case measure => simp [intOf]; omega
        · obtain rfl : b' = fl := bf (by omega)
          clear bz bf hbyte hpt
          go_wp2
          go_loop [7, 10] (fun s j => ∃ (Z : ByteArray) (j' : Int), s = .string Z ∧ j = .int .i64 j' ∧ 0 ≤ j' ∧ j' ≤ more ∧ (Z.size : Int) = dl + 1 + fl + j' ∧ Hid (Z = ⟨(bs n.toNat places.toNat ++ zs j'.toNat).toArray⟩)) (fun _ j => (more - intOf j).toNat)
          case atStart => exact ⟨_, 0, rfl, rfl, by omega, m0, by omega, hid (by rw [HS.out]; simp [zs])⟩
          case round =>
            obtain ⟨Z, j', rfl, rfl, j0, j1, hZz, hZ⟩ := hrel
            by_cases hj : j' < more
            · have H := hid (B1.out Z j' j0 hZ.out)
              have hsz : ((Z ++ ⟨#[48]⟩ : ByteArray).size : Int) = dl + 1 + fl + (j' + 1) := by
                rw [ByteArray.size_append, show (⟨#[48]⟩ : ByteArray).size = 1 from rfl]; omega
              have hn2 : ¬ 9223372036854775807 < Z.size + 1 := by omega
              go_wp2
              go_round
              case rel => exact ⟨_, j' + 1, rfl, rfl, by omega, by omega, hsz, H⟩
              case measure => simp [intOf]; omega
            · obtain rfl : j' = more := by omega
              have hZ' := hZ.out
              subst hZ'
              clear hZ hZz
              rcases hgt with hgt | hgt
              · simp only [if_neg (show ¬ places < (fl : Int) + j' by omega)] at cP
                go_wp2_with (go_at_call 8; refine (cP _ k3).mono ?_; rintro e w4 ⟨rfl, b4⟩; have B4 := below_on B3 b4)
                go_ret
                exact ⟨rfl, B4⟩
              · simp only [if_pos hgt] at cP
                go_wp2_with (go_at_call 8; refine (cP _ k3).mono ?_; rintro e w4 ⟨rfl, b4⟩; have B4 := below_on B3 b4)
                go_ret
                exact ⟨rfl, B4⟩
    · have b0 : (F == 1) = false := by simpa using hF
      go_enter Tryd.func5, Tryd.ntmps5
      go_wp2_with (first
        | (go_at_call 7; refine cA.mono ?_; rintro e w1 ⟨rfl, b1⟩; have k1 := D.keep k b1)
        | (go_at_call 12; refine (cX _ k1).mono ?_; rintro e w2 ⟨rfl, b2⟩; have B2 := below_on b1 b2; have k2 := D.keep k1 b2)
        | (go_at_call 10; refine (cF _ k2).mono ?_; rintro e w3 ⟨rfl, b3⟩; have B3 := below_on B2 b3; have k3 := D.keep k2 b3))
      go_loop [8, 9] (fun b i => ∃ b' i' : Int, b = .int .i64 b' ∧ i = .int .i64 i' ∧ 0 ≤ i' ∧ i' ≤ dl + 1 + fl ∧ (i' ≤ dl → b' = 0) ∧ (dl < i' → b' = fl)) (fun _ i => ((dl : Int) + 1 + fl - intOf i).toNat)
      case atStart => exact ⟨0, 0, rfl, rfl, by omega, by omega, by omega, by omega⟩
      case round =>
        obtain ⟨b', i', rfl, rfl, i0, i1, bz, bf⟩ := hrel
        by_cases hi : i' < dl + 1 + fl
        · have hb := hbyte i' i0 (by omega)
          have hp46 := hpt i'.toNat (by omega)
          obtain ⟨c, hc⟩ : ∃ c, c = (bs n.toNat places.toNat).getD i'.toNat 0 := ⟨_, rfl⟩
          rw [← hc] at hp46
          simp only [← hc] at hb
          obtain ⟨z, hz⟩ : ∃ z : Int, z = (c.toNat : Int) := ⟨_, rfl⟩
          simp only [← hz] at hb
          by_cases hd : i' = dl
          · have b1' : (z == 46) = true := by rw [hz, hp46.2 (by omega)]; rfl
            have hd1 : i' ≤ dl := by omega
            have hd2 : (dl : Int) ≤ i' := by omega
            clear hc hz hp46 hbyte bz bf hd
            go_wp2
            go_round
            case rel => exact ⟨_, i' + 1, rfl, rfl, by omega, by omega, by omega, by omega⟩
            case measure => simp [intOf]; omega
          · have b1' : (z == 46) = false := by
              rw [beq_eq_false_iff_ne]
              intro e
              have : i'.toNat = dl := hp46.1 (UInt8.toNat_inj.1 (by show _ = 46; omega))
              omega
            clear hc hz hp46 hbyte
            go_wp2
            go_round
            case rel => exact ⟨b', i' + 1, rfl, rfl, by omega, by omega, by omega, by omega⟩
            case measure => simp [intOf]; omega
        · obtain rfl : b' = fl := bf (by omega)
          clear bz bf hbyte hpt
          go_wp2
          go_loop [7, 10] (fun s j => ∃ (Z : ByteArray) (j' : Int), s = .string Z ∧ j = .int .i64 j' ∧ 0 ≤ j' ∧ j' ≤ more ∧ (Z.size : Int) = dl + 1 + fl + j' ∧ Hid (Z = ⟨(bs n.toNat places.toNat ++ zs j'.toNat).toArray⟩)) (fun _ j => (more - intOf j).toNat)
          case atStart => exact ⟨_, 0, rfl, rfl, by omega, m0, by omega, hid (by rw [HS.out]; simp [zs])⟩
          case round =>
            obtain ⟨Z, j', rfl, rfl, j0, j1, hZz, hZ⟩ := hrel
            by_cases hj : j' < more
            · have H := hid (B1.out Z j' j0 hZ.out)
              have hsz : ((Z ++ ⟨#[48]⟩ : ByteArray).size : Int) = dl + 1 + fl + (j' + 1) := by
                rw [ByteArray.size_append, show (⟨#[48]⟩ : ByteArray).size = 1 from rfl]; omega
              have hn2 : ¬ 9223372036854775807 < Z.size + 1 := by omega
              go_wp2
              go_round
              case rel => exact ⟨_, j' + 1, rfl, rfl, by omega, by omega, hsz, H⟩
              case measure => simp [intOf]; omega
            · obtain rfl : j' = more := by omega
              have hZ' := hZ.out
              subst hZ'
              clear hZ hZz
              rcases hgt with hgt | hgt
              · simp only [if_neg (show ¬ places < (fl : Int) + j' by omega)] at cP
                go_wp2_with (go_at_call 8; refine (cP _ k3).mono ?_; rintro e w4 ⟨rfl, b4⟩; have B4 := below_on B3 b4)
                go_ret
                exact ⟨rfl, B4⟩
              · simp only [if_pos hgt] at cP
                go_wp2_with (go_at_call 8; refine (cP _ k3).mono ?_; rintro e w4 ⟨rfl, b4⟩; have B4 := below_on B3 b4)
                go_ret
                exact ⟨rfl, B4⟩
end Go.Proofs.YtkjlcbjfnffpfaaDoor.L04
