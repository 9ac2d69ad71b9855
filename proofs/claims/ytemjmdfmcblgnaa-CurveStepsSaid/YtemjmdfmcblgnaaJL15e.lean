/- Numbers that rise by the same from block to block (layer 15) as plain data: one group. No program is named here. -/
import Derived.Test.YtemjmdfmcblgnaaJPureL
import Derived.Test.YtemjmdfmcblgnaaJCurR
namespace Go.Proofs.Ytemjmdfmcblgnaa.Mm
end Go.Proofs.Ytemjmdfmcblgnaa.Mm
namespace Go.Proofs.Ytemjmdfmcblgnaa.P
end Go.Proofs.Ytemjmdfmcblgnaa.P
namespace Go.Proofs.Ytemjmdfmcblgnaa.R6
end Go.Proofs.Ytemjmdfmcblgnaa.R6
namespace Go.Proofs.Ytemjmdfmcblgnaa.R14
end Go.Proofs.Ytemjmdfmcblgnaa.R14
namespace Go.Proofs.Ytemjmdfmcblgnaa.L14
end Go.Proofs.Ytemjmdfmcblgnaa.L14
namespace Go.Proofs.Ytemjmdfmcblgnaa.P
open Go.RowKit Mm
/-- So many blocks, so wide, from a number on, each greater by the same. -/
def blk (W : Nat) (r : Int) : Nat → Int → List Int
  | 0, _ => []
  | n + 1, v => List.replicate W v ++ blk W r n (v + r)
def blkR (W : Nat) (r : Int) : Nat → Int → Int → List (Rn Int)
  | 0, _, _ => []
  | n + 1, a, v => ⟨a, a + W - 1, v⟩ :: blkR W r n (a + W) (v + r)
theorem blk_len (W : Nat) (r : Int) : ∀ (n : Nat) (v : Int), (blk W r n v).length = n * W
  | 0, _ => by rw [Nat.zero_mul]; rfl
  | n + 1, v => by
    show (List.replicate W v ++ blk W r n (v + r)).length = _
    rw [List.length_append, List.length_replicate, blk_len W r n, Nat.succ_mul]
    omega
theorem blk_get (W : Nat) (r : Int) : ∀ (n : Nat) (v : Int) (k i : Nat), k < n → i < W → (blk W r n v)[k * W + i]? = some (v + k * r)
  | 0, _, _, _, h, _ => absurd h (by omega)
  | n + 1, v, 0, i, _, hi => by
    show (List.replicate W v ++ blk W r n (v + r))[0 * W + i]? = _
    rw [Nat.zero_mul, Nat.zero_add, List.getElem?_append_left (by rw [List.length_replicate]; exact hi), List.getElem?_replicate, if_pos hi]
    simp
  | n + 1, v, k + 1, i, hk, hi => by
    show (List.replicate W v ++ blk W r n (v + r))[(k + 1) * W + i]? = _
    rw [List.getElem?_append_right (by rw [List.length_replicate, Nat.succ_mul]; omega), List.length_replicate, show (k + 1) * W + i - W = k * W + i by rw [Nat.succ_mul]; omega, blk_get W r n (v + r) k i (by omega) hi]
    congr 1
    rw [show ((k + 1 : Nat) : Int) = (k : Int) + 1 by omega, Int.add_mul, Int.one_mul]
    omega
theorem blk_runs {W : Nat} {r : Int} (hW : 0 < W) (hr : r ≠ 0) : ∀ (n : Nat) (a v : Int), runsF a (blk W r n v) = blkR W r n a v
  | 0, _, _ => rfl
  | n + 1, a, v => by
    obtain ⟨M, rfl⟩ : ∃ M, W = M + 1 := ⟨W - 1, by omega⟩
    show runsF a (List.replicate (M + 1) v ++ blk (M + 1) r n (v + r)) = _
    rw [runs_rep v _ (fun w t h => by
      cases n with
      | zero => cases h
      | succ n =>
        have : v + r = w := by
          have h2 : (v + r) :: (List.replicate M (v + r) ++ blk (M + 1) r n (v + r + r)) = w :: t := h
          exact (List.cons.inj h2).1
        omega), show a + (M : Int) + 1 = a + ((M + 1 : Nat) : Int) by omega, blk_runs hW hr n]
    show _ = (⟨a, a + ((M + 1 : Nat) : Int) - 1, v⟩ : Rn Int) :: blkR (M + 1) r n (a + ((M + 1 : Nat) : Int)) (v + r)
    rw [show a + (M : Int) = a + ((M + 1 : Nat) : Int) - 1 by omega]
theorem blk_ext (W : Nat) (r : Int) : ∀ (n : Nat) (a v : Int), extN W r a v (blkR W r n (a + W) (v + r)) = n
  | 0, _, _ => rfl
  | n + 1, a, v => by
    show extN W r a v (⟨a + W, a + W + W - 1, v + r⟩ :: blkR W r n (a + W + W) (v + r + r)) = _
    unfold extN
    rw [if_pos ⟨rfl, rfl⟩, blk_ext W r n]
theorem blkR_len (W : Nat) (r : Int) : ∀ (n : Nat) (a v : Int), (blkR W r n a v).length = n
  | 0, _, _ => rfl
  | n + 1, a, v => by
    show (blkR W r n _ _).length + 1 = _
    rw [blkR_len W r n]
/-- Blocks that rise by the same are one group. -/
theorem blk_cur {W : Nat} {r : Int} (hW : 0 < W) (hr : r ≠ 0) (n : Nat) (v : Int) : curG (blk W r (n + 2) v) = [⟨0, v, W, r, (n : Int) + 2⟩] := by
  unfold curG
  rw [blk_runs hW hr]
  show grp ((⟨0, _, v⟩ : Rn Int) :: ⟨0 + W, _, v + r⟩ :: blkR W r n (0 + W + W) (v + r + r)) = _
  rw [grp_two]
  show (⟨0, v, 0 + (W : Int) - 0, v + r - v, (extN (0 + (W : Int) - 0) (v + r - v) (0 + W) (v + r) (blkR W r n (0 + W + W) (v + r + r)) : Int) + 2⟩ : Gp) :: grp ((blkR W r n (0 + W + W) (v + r + r)).drop (extN (0 + (W : Int) - 0) (v + r - v) (0 + W) (v + r) (blkR W r n (0 + W + W) (v + r + r)))) = _
  rw [show 0 + (W : Int) - 0 = W by omega, show v + r - v = r by omega, blk_ext W r n, List.drop_of_length_le (by rw [blkR_len]; exact Nat.le_refl _), grp_nil]
theorem rep_cur {n : Nat} (hn : 0 < n) (v : Int) : curG (List.replicate n v) = [⟨0, v, 0, 0, 1⟩] := by
  obtain ⟨m, rfl⟩ : ∃ m, n = m + 1 := ⟨n - 1, by omega⟩
  have h := runs_rep v [] (fun w r h => by cases h) m 0
  rw [List.append_nil] at h
  unfold curG
  rw [h]
  rfl
theorem blk_flat (W : Nat) : ∀ (n : Nat) (v : Int), blk W 0 n v = List.replicate (n * W) v
  | 0, v => by rw [Nat.zero_mul]; rfl
  | n + 1, v => by
    show List.replicate W v ++ blk W 0 n (v + 0) = _
    rw [Int.add_zero, blk_flat W n, List.replicate_append_replicate, Nat.succ_mul, Nat.add_comm]
theorem blk_one (W : Nat) (r v : Int) : blk W r 1 v = List.replicate (1 * W) v := by
  show List.replicate W v ++ [] = _
  rw [List.append_nil, Nat.one_mul]
theorem mul_small {k r : Int} (h0 : 0 ≤ k) (h1 : k ≤ 40) (h2 : -1000000 ≤ r) (h3 : r ≤ 1000000) : -40000000 ≤ k * r ∧ k * r ≤ 40000000 := by
  have a := Int.mul_le_mul_of_nonneg_left h3 h0
  have b := Int.mul_le_mul_of_nonneg_left h2 h0
  omega
theorem blk_vals {W : Nat} {r : Int} {n : Nat} {v : Int} (hn : n ≤ 40) (h2 : -1000000 ≤ r) (h3 : r ≤ 1000000) (h4 : -1000000 ≤ v) (h5 : v ≤ 1000000) : ∀ x ∈ blk W r n v, -41000000 ≤ x ∧ x ≤ 41000000 := by
  intro x hx
  obtain ⟨p, hp, e⟩ := List.mem_iff_getElem.1 hx
  rw [blk_len] at hp
  have hW : 0 < W := by
    rcases Nat.eq_zero_or_pos W with h | h
    · subst h; rw [Nat.mul_zero] at hp; omega
    · exact h
  have hk : p / W < n := Nat.div_lt_of_lt_mul (by rw [Nat.mul_comm]; exact hp)
  have hi := Nat.mod_lt p hW
  have h := blk_get W r n v (p / W) (p % W) hk hi
  rw [show p / W * W + p % W = p by rw [Nat.mul_comm]; exact Nat.div_add_mod p W, List.getElem?_eq_getElem (by rw [blk_len]; exact hp), e] at h
  have h := Option.some.inj h
  obtain ⟨K, hK⟩ : ∃ K, K = p / W := ⟨_, rfl⟩
  rw [← hK] at h hk
  have := mul_small (k := (K : Int)) (r := r) (by omega) (by omega) h2 h3
  omega
theorem blk_can {W : Nat} {r : Int} {n : Nat} {v : Int} (h0 : 0 < n * W) (h1 : n * W ≤ 2000) (hn : n ≤ 40) (h2 : -1000000 ≤ r) (h3 : r ≤ 1000000) (h4 : -1000000 ≤ v) (h5 : v ≤ 1000000) : curB (blk W r n v) = true := by
  unfold curB
  rw [blk_len, decide_eq_true h0, decide_eq_true (by omega), show (blk W r n v).any bigB = false from List.any_eq_false.2 (fun x hx => by
    have := blk_vals hn h2 h3 h4 h5 x hx
    unfold bigB
    rw [decide_eq_false (by omega), decide_eq_false (by omega)]
    simp)]
  rfl
end Go.Proofs.Ytemjmdfmcblgnaa.P
/- CurveSteps (layer 15): numbers that rise by the same from block to block are one group. -/
namespace Go.Proofs.Ytemjmdfmcblgnaa.L15
open Go.RowKit Go.Sort P Mm R6 R14 L14
set_option maxHeartbeats 4000000 in
set_option maxRecDepth 100000 in
theorem steps_walk (S : LnO) (C : Cu) (wd rs ct vl : Int) (w : World) :
    Calls Try.prog 7 #[.int .i64 wd, .int .i64 rs, .int .i64 ct, .int .i64 vl] w fun e w' => e = .returned (.bool true) ∧ Below w.heap.size w w' := by
  have cA := hid (alive_any S C w)
  go_enter Try.func7, Try.ntmps7
  go_wp2_with fail
  refine cA.out.mono ?_
  rintro e w1 ⟨rfl, b1⟩
  have B1 := hid b1
  clear b1 cA
  by_cases h1 : wd < 1
  · have z1 : decide (wd < 1) = true := decide_eq_true h1
    go_wp2
    go_ret
    exact ⟨rfl, B1.out⟩
  have z1 : decide (wd < 1) = false := decide_eq_false h1
  by_cases h2 : 50 < wd
  · have z2 : decide (50 < wd) = true := decide_eq_true h2
    go_wp2
    go_ret
    exact ⟨rfl, B1.out⟩
  have z2 : decide (50 < wd) = false := decide_eq_false h2
  by_cases h3 : ct < 1
  · have z3 : decide (ct < 1) = true := decide_eq_true h3
    go_wp2
    go_ret
    exact ⟨rfl, B1.out⟩
  have z3 : decide (ct < 1) = false := decide_eq_false h3
  by_cases h4 : 40 < ct
  · have z4 : decide (40 < ct) = true := decide_eq_true h4
    go_wp2
    go_ret
    exact ⟨rfl, B1.out⟩
  have z4 : decide (40 < ct) = false := decide_eq_false h4
  by_cases h5 : 1000000 < rs
  · have z5 : decide (1000000 < rs) = true := decide_eq_true h5
    go_wp2
    go_ret
    exact ⟨rfl, B1.out⟩
  have z5 : decide (1000000 < rs) = false := decide_eq_false h5
  by_cases h6 : rs < -1000000
  · have z6 : decide (rs < -1000000) = true := decide_eq_true h6
    go_wp2
    go_ret
    exact ⟨rfl, B1.out⟩
  have z6 : decide (rs < -1000000) = false := decide_eq_false h6
  by_cases h7 : 1000000 < vl
  · have z7 : decide (1000000 < vl) = true := decide_eq_true h7
    go_wp2
    go_ret
    exact ⟨rfl, B1.out⟩
  have z7 : decide (1000000 < vl) = false := decide_eq_false h7
  by_cases h8 : vl < -1000000
  · have z8 : decide (vl < -1000000) = true := decide_eq_true h8
    go_wp2
    go_ret
    exact ⟨rfl, B1.out⟩
  have z8 : decide (vl < -1000000) = false := decide_eq_false h8
  obtain ⟨W, hW⟩ : ∃ W : Nat, (W : Int) = wd := ⟨wd.toNat, by omega⟩
  obtain ⟨n, hn⟩ : ∃ n : Nat, (n : Int) = ct := ⟨ct.toNat, by omega⟩
  have W1 : 1 ≤ W ∧ W ≤ 50 := by omega
  have N1 : 1 ≤ n ∧ n ≤ 40 := by omega
  have V1 : -1000000 ≤ vl ∧ vl ≤ 1000000 := by omega
  have R1 : -1000000 ≤ rs ∧ rs ≤ 1000000 := by omega
  subst hW hn
  clear h1 h2 h3 h4 h5 h6 h7 h8
  have hLn := blk_len W rs n vl
  have hGet := hid (fun (k i : Nat) (h1 : k < n) (h2 : i < W) => blk_get W rs n vl k i h1 h2)
  have hnW : n * W ≤ 2000 := Nat.le_trans (Nat.mul_le_mul N1.2 W1.2) (by decide)
  have hn0 : 0 < n * W := Nat.mul_pos N1.1 W1.1
  have cb := blk_can (r := rs) (v := vl) hn0 hnW N1.2 R1.1 R1.2 V1.1 V1.2
  have VB := hid (show ∀ x ∈ blk W rs n vl, I64 x from fun x hx => by have := blk_vals N1.2 R1.1 R1.2 V1.1 V1.2 x hx; unfold I64; omega)
  have GC := hid (show curG (blk W rs n vl) = if n = 1 ∨ rs = 0 then [⟨0, vl, 0, 0, 1⟩] else [⟨0, vl, W, rs, n⟩] by
    split
    · rename_i h
      have e : blk W rs n vl = List.replicate (n * W) vl := by
        rcases h with rfl | rfl
        · exact blk_one W rs vl
        · exact blk_flat W n vl
      rw [e]
      exact rep_cur hn0 vl
    · rename_i h
      obtain ⟨m, rfl⟩ : ∃ m, n = m + 2 := ⟨n - 2, by omega⟩
      exact blk_cur W1.1 (fun e => h (.inr e)) m vl)
  have wM : IntKind.i64.wrap ((W : Int) * (n : Int)) = ((n * W : Nat) : Int) := by
    rw [wrap_l (by rw [Int.mul_comm, ← Int.natCast_mul]; unfold I64; omega), Int.mul_comm, Int.natCast_mul]
  obtain ⟨L, hL⟩ : ∃ L, L = blk W rs n vl := ⟨_, rfl⟩
  rw [← hL] at hLn hGet cb VB GC
  obtain ⟨T, hT⟩ : ∃ T, T = n * W := ⟨_, rfl⟩
  have HT := hid hT
  rw [← hT] at hLn hnW hn0 wM
  have HLN := hid hLn
  have CB := hid cb
  obtain ⟨i0, hi0, hz0, hz1, hz2⟩ := info_parts R14.info_int
  clear hL hT hLn cb
  have wM := hid wM
  go_wp2
  go_loopw [9, 10] (fun v9 v10 wr => ∃ (V : Value) (k P : Nat), v9 = V ∧ v10 = .int .i64 (k : Int) ∧ k ≤ n ∧ Hid (P = k * W) ∧ Hid (wr.ownsRow w1.heap.size 3 1 V P ((L.take P).flatMap intC)) ∧ Hid (Below w1.heap.size w1 wr)) (fun _ k _ => n - (intOf k).toNat)
  case atStart => exact ⟨_, 0, 0, rfl, rfl, Nat.zero_le _, hid (by rw [Nat.zero_mul]), hid (World.ownsRow_nil _ _ _ _), hid (Below.refl w1.heap.size w1)⟩
  case round =>
    obtain ⟨V, k, P, rfl, rfl, hk, hP, hO, hb⟩ := hrel
    by_cases hkn : k < n
    · have kn : (k : Int) < (n : Int) := by omega
      have P0 := hid (show P = k * W + 0 by rw [hP.out, Nat.add_zero])
      have KW := hid (show k * W + W ≤ T by rw [HT.out, ← Nat.succ_mul]; exact Nat.mul_le_mul_right W hkn)
      go_wp2
      go_loopw [9, 11] (fun v9 v11 wr => ∃ (V : Value) (i P : Nat), v9 = V ∧ v11 = .int .i64 (i : Int) ∧ i ≤ W ∧ Hid (P = k * W + i) ∧ Hid (wr.ownsRow w1.heap.size 3 1 V P ((L.take P).flatMap intC)) ∧ Hid (Below w1.heap.size w1 wr)) (fun _ i _ => W - (intOf i).toNat)
      case atStart => exact ⟨_, 0, P, rfl, rfl, Nat.zero_le _, P0, hO, hb⟩
      case round =>
        clear P0 hO hb hP
        obtain ⟨V2, i, P2, rfl, rfl, hi, hP, hO, hb⟩ := hrel
        by_cases hiw : i < W
        · have iw : (i : Int) < (W : Int) := by omega
          have LG := hGet.out k i hkn hiw
          rw [← hP.out] at LG
          obtain ⟨X, hX⟩ : ∃ X, X = (k : Int) * rs := ⟨_, rfl⟩
          have XB := mul_small (k := (k : Int)) (r := rs) (by omega) (by omega) R1.1 R1.2
          rw [← hX] at LG XB
          have P3 : P2 < 2000 := by have := hP.out; have := KW.out; omega
          have y1 : IntKind.i64.wrap ((k : Int) * rs) = X := by rw [← hX]; exact wrap_l (by unfold I64; omega)
          have y2 : IntKind.i64.wrap (vl + X) = vl + X := wrap_l (by unfold I64; omega)
          have y3 : IntKind.i64.wrap ((i : Int) + 1) = (i : Int) + 1 := wrap_l (by unfold I64; omega)
          have TK := hid (show (L.take (P2 + 1)).flatMap intC = (L.take P2).flatMap intC ++ intC (vl + X) by rw [List.take_add_one, LG, List.flatMap_append]; rfl)
          have PN := hid (show P2 + 1 = k * W + (i + 1) by rw [hP.out, Nat.add_assoc])
          have oo := hO.out
          have hsz := hb.out.size
          clear LG hX hO hP
          go_wp2_with (at_builtin; refine wpList_append_own _ rfl _ _ 22 rfl w1.heap.size 3 i0 (.int .i64 0) 1 8 Try.underlying22 hi0 hz0 hz1 hz2 rfl (by decide) _ _ _ rfl (oo.alloc _) ⟨wr.heap.size, 0, none⟩ 1 1 (intC (vl + X)) rfl rfl (news_at wr (intC (vl + X)) _) (by simp [intC, Value.oneCell']) (by unfold maxLen; omega) (by omega) (by simp; omega) ?_)
          intro v6 w6 hown hgrow _
          have B6 := hid ((hb.out.alloc hsz _).grown hgrow (hb.out.alloc hsz _).size (fun j hj => (oo.lt j hj).1))
          have O6 := hid (show w6.ownsRow w1.heap.size 3 1 v6 (P2 + 1) ((L.take (P2 + 1)).flatMap intC) by rw [TK.out]; exact hown)
          clear hown hgrow oo hb TK
          go_wp2
          go_roundw
          case rel => exact ⟨v6, i + 1, P2 + 1, rfl, by simp, by omega, PN, O6, B6⟩
          case measure => simp [intOf]; omega
        · obtain rfl : i = W := by omega
          have PN := hid (show P2 = (k + 1) * i by rw [hP.out, Nat.succ_mul])
          have y3 : IntKind.i64.wrap ((k : Int) + 1) = (k : Int) + 1 := wrap_l (by unfold I64; omega)
          clear hP
          go_wp2
          go_roundw
          case rel => exact ⟨_, k + 1, P2, rfl, by simp, by omega, PN, hO, hb⟩
          case measure => simp [intOf]; omega
    · have zk : decide ((k : Int) < (n : Int)) = false := decide_eq_false (by omega)
      have hPT : P = T := by rw [hP.out, HT.out, show k = n by omega]
      have oV := hO.out
      have hLn := HLN.out
      rw [hPT, ← hLn, List.take_length] at oV
      obtain ⟨sa, sc, e, RS⟩ := row_own (n := 1) (cells := intC) (ok := I64) (hn := fun _ => rfl) oV VB.out
      rw [hLn] at e RS
      have hp : Ply 0 L := ply_of (by decide) (by decide) (by omega) VB.out
      have cO := S.of 0 L sa sc wr (by rw [hLn]; exact RS) (by decide) (by decide) (by omega)
      rw [hLn] at cO
      have cC := fun a2 c2 W h => C.of 0 L a2 c2 W h hp (by omega)
      unfold ofM ofG at cC
      rw [ofB_0, CB.out, if_pos rfl, if_pos rfl, hLn] at cC
      obtain ⟨R1, hR1⟩ : ∃ R, R = runsF 0 L := ⟨_, rfl⟩
      rw [← hR1] at cO cC
      obtain ⟨N1, hN1⟩ : ∃ N, N = R1.length := ⟨_, rfl⟩
      rw [← hN1] at cO cC
      have cO := hid cO; have cC := hid cC
      have BF := hid (hb.out)
      subst e
      have s1 := RS.hmax
      have s2 := RS.hcap
      clear hR1 hN1 hp RS oV hO hP hb hGet HLN hLn hPT
      go_wp2_with fail
      refine cO.out.mono ?_
      rintro e w2 ⟨⟨a2, c2, rfl, r2⟩, b2⟩
      have B2 := hid (bel_on BF.out b2)
      have R2 := hid r2
      clear b2 r2 cO BF
      obtain ⟨g, hg⟩ : ∃ g, g = if n = 1 ∨ rs = 0 then (⟨0, vl, 0, 0, 1⟩ : Gp) else ⟨0, vl, W, rs, n⟩ := ⟨_, rfl⟩
      have hg2 : curG L = [g] := by rw [GC.out, hg]; split <;> rfl
      have cD := cC.out a2 c2 w2 R2.out
      rw [hg2] at cD
      have cD := hid (show Calls Try.prog 9 #[.agg #[.slice a2 N1 c2]] w2 fun e w' => (∃ ao' cap', e = .returned (.tuple #[.agg #[.int .i64 ((T : Int) - 1), .slice ao' 1 cap'], .bool true]) ∧ Row tGp w' ao' 1 cap' [g]) ∧ Below w2.heap.size w2 w' from cD)
      have HG := hid hg
      clear hg hg2 GC cC R2
      go_wp2_with fail
      refine cD.out.mono ?_
      rintro e w3 ⟨⟨a3, c3, rfl, r3⟩, b3⟩
      obtain ⟨w4, hw4⟩ : ∃ W, W = w3.alloc (.cells #[.int .i64 ((T : Int) - 1), .slice a3 1 c3] 26) := ⟨_, rfl⟩
      obtain ⟨k4, hk4⟩ : ∃ k, k = w3.heap.size := ⟨_, rfl⟩
      have b34 : Below w3.heap.size w3 w4 := by rw [hw4]; exact bel_alloc _ _
      have X4 : Box w4 k4 [.int .i64 ((T : Int) - 1), .slice a3 1 c3] := by rw [hw4, hk4]; exact Box.new w3 [.int .i64 ((T : Int) - 1), .slice a3 1 c3] _
      have B4 := hid (bel_on (bel_on B2.out b3) b34)
      have R4 := hid (r3.on b34)
      have HX4 := hid X4
      have HW := hid hw4
      have HK := hid hk4
      clear cD r3 b3 hw4 hk4 b34 X4 B2
      go_upto_region 14 with fail
      rw [← HW.out, ← HK.out]
      clear HW HK
      obtain ⟨w5, hw5⟩ : ∃ X, X = w4.alloc (.cells #[.int .i64 0, .int .i64 vl, .int .i64 W, .int .i64 rs, .int .i64 n] 45) := ⟨_, rfl⟩
      obtain ⟨k5, hk5⟩ : ∃ k, k = w4.heap.size := ⟨_, rfl⟩
      have b45 : Below w4.heap.size w4 w5 := by rw [hw5]; exact bel_alloc _ _
      have X5 : Box w5 k5 [.int .i64 0, .int .i64 vl, .int .i64 W, .int .i64 rs, .int .i64 n] := by rw [hw5, hk5]; exact Box.new w4 [.int .i64 0, .int .i64 vl, .int .i64 W, .int .i64 rs, .int .i64 n] _
      have B5 := hid (bel_on B4.out b45)
      have R5 := hid (R4.out.on b45)
      have HX := hid (HX4.out.on b45)
      have HX5 := hid X5
      have KEEP := hid (fun (W : World) (b : Below w4.heap.size w4 W) => (⟨HX4.out.on b, R4.out.on b, bel_on B4.out b⟩ : Box W k4 [.int .i64 ((T : Int) - 1), .slice a3 1 c3] ∧ Row tGp W a3 1 c3 [g] ∧ Below w1.heap.size w1 W))
      have B45 := hid b45
      have KS := hid (show w4.heap.size ≤ k5 by omega)
      have HW := hid hw5
      have HK := hid hk5
      clear b45 X5 hw5 hk5 B4 R4 HX4
      go_upto_region 15 with fail
      rw [← HW.out, ← HK.out]
      clear HW HK
      obtain ⟨gb, go', eg, -, g0, g1, g2, g3, g4, -⟩ := gp_at R5.out (j := 0) rfl
      subst eg
      simp only [Nat.zero_mul, Nat.add_zero] at g0 g1 g2 g3 g4
      have x0 := HX.out.cell 0 _ rfl; have x1 := HX.out.cell 1 _ rfl; have l4 := HX.out.lt
      by_cases hA : n = 1 ∨ rs = 0
      · have e := HG.out
        rw [if_pos hA] at e
        subst e
        clear g0 g1 g2 g3 g4 x0 x1 l4
        have f5 := HX5.out.free 0; have f6 := HX5.out.free 1; have f7 := HX5.out.free 2; have f8 := HX5.out.free 3; have f9 := HX5.out.free 4; have l5 := HX5.out.lt
        have q0 := HX5.out.cell 0 _ rfl; have q1 := HX5.out.cell 1 _ rfl; have q2 := HX5.out.cell 2 _ rfl; have q3 := HX5.out.cell 3 _ rfl; have q4 := HX5.out.cell 4 _ rfl
        obtain ⟨w6, hw6⟩ : ∃ X, X = ((((w5.setCell ⟨k5, 0, none⟩ (.int .i64 0)).setCell ⟨k5, 1, none⟩ (.int .i64 vl)).setCell ⟨k5, 2, none⟩ (.int .i64 0)).setCell ⟨k5, 3, none⟩ (.int .i64 0)).setCell ⟨k5, 4, none⟩ (.int .i64 1) := ⟨_, rfl⟩
        have HW6 := hid hw6
        have X6 : Box w6 k5 [.int .i64 0, .int .i64 vl, .int .i64 0, .int .i64 0, .int .i64 1] := by
          rw [hw6]
          exact ((((HX5.out.set 0 _).set 1 _).set 2 _).set 3 _).set 4 _
        obtain ⟨Y6, R6', B6⟩ := KEEP.out w6 (by
          rw [hw6]
          exact ((((B45.out.setCell (p := ⟨k5, 0, none⟩) KS.out _).setCell (p := ⟨k5, 1, none⟩) KS.out _).setCell (p := ⟨k5, 2, none⟩) KS.out _).setCell (p := ⟨k5, 3, none⟩) KS.out _).setCell (p := ⟨k5, 4, none⟩) KS.out _)
        obtain ⟨gb2, go2, eg, -, g0, g1, g2, g3, g4, -⟩ := gp_at R6' (j := 0) rfl
        simp only [Option.some.injEq, Addr.mk.injEq, and_true] at eg
        obtain ⟨rfl, rfl⟩ := eg
        simp only [Nat.zero_mul, Nat.add_zero] at g0 g1 g2 g3 g4
        have y0 := cell_regrown (X6.cell 0 _ rfl); have y1 := cell_regrown (X6.cell 1 _ rfl); have y2 := cell_regrown (X6.cell 2 _ rfl); have y3 := cell_regrown (X6.cell 3 _ rfl); have y4 := cell_regrown (X6.cell 4 _ rfl); have l6 := X6.lt
        have x0 := Y6.cell 0 _ rfl; have x1 := Y6.cell 1 _ rfl; have l7 := Y6.lt
        have u0 := cell_regrown g0; have u1 := cell_regrown g1; have u2 := cell_regrown g2; have u3 := cell_regrown g3; have u4 := cell_regrown g4
        have v0 := cell_regrown x0; have v1 := cell_regrown x1
        have wT : IntKind.i64.wrap ((T : Int) - 1) = (T : Int) - 1 := wrap_l (by unfold I64; omega)
        have wM := wM.out
        have B6 := hid B6
        clear X6 Y6 R6' HG HX HX5 R5 B5 KEEP B45 KS hw6 g0 g1 g2 g3 g4 x0 x1
        by_cases hn1 : n = 1
        · have z1 : ((n : Int) == 1) = true := by rw [hn1]; rfl
          clear hn1
          go_upto_region 17 with fail
          rw [← HW6.out]
          clear HW6
          refine wp_region_quiet_below (by kernel_rfl) (by kernel_rfl) ?_
          repeat (go_big_quiet_step (fail))
          refine wpQuiet_nil ?_
          intro _ hw'
          obtain ⟨⟨dq, osq⟩, hw''⟩ := hw'
          subst hw''
          have BZ := hid (bel_on B6.out (below_regrown w6 dq osq))
          clear B6
          go_wp2
          go_ret
          exact ⟨rfl, bel_on B1.out BZ.out⟩
        · have z1 : ((n : Int) == 1) = false := by rw [beq_eq_false_iff_ne]; omega
          have z2 : (rs == 0) = true := by rw [beq_iff_eq]; rcases hA with h | h; exact absurd h hn1; exact h
          clear hn1 hA
          go_upto_region 17 with fail
          rw [← HW6.out]
          clear HW6
          refine wp_region_quiet_below (by kernel_rfl) (by kernel_rfl) ?_
          repeat (go_big_quiet_step (fail))
          refine wpQuiet_nil ?_
          intro _ hw'
          obtain ⟨⟨dq, osq⟩, hw''⟩ := hw'
          subst hw''
          have BZ := hid (bel_on B6.out (below_regrown w6 dq osq))
          clear B6
          go_wp2
          go_ret
          exact ⟨rfl, bel_on B1.out BZ.out⟩
      · have e := HG.out
        rw [if_neg hA] at e
        subst e
        have z1 : ((n : Int) == 1) = false := by rw [beq_eq_false_iff_ne]; omega
        have z2 : (rs == 0) = false := by rw [beq_eq_false_iff_ne]; omega
        have y0 := cell_regrown (HX5.out.cell 0 _ rfl); have y1 := cell_regrown (HX5.out.cell 1 _ rfl); have y2 := cell_regrown (HX5.out.cell 2 _ rfl); have y3 := cell_regrown (HX5.out.cell 3 _ rfl); have y4 := cell_regrown (HX5.out.cell 4 _ rfl); have l5 := HX5.out.lt
        have u0 := cell_regrown g0; have u1 := cell_regrown g1; have u2 := cell_regrown g2; have u3 := cell_regrown g3; have u4 := cell_regrown g4
        have v0 := cell_regrown x0; have v1 := cell_regrown x1
        have wT : IntKind.i64.wrap ((T : Int) - 1) = (T : Int) - 1 := wrap_l (by unfold I64; omega)
        have wM := wM.out
        clear HG hA HX HX5 R5 g0 g1 g2 g3 g4 x0 x1
        go_upto_region 17 with fail
        refine wp_region_quiet_below (by kernel_rfl) (by kernel_rfl) ?_
        repeat (go_big_quiet_step (fail))
        refine wpQuiet_nil ?_
        intro _ hw'
        obtain ⟨⟨dq, osq⟩, hw''⟩ := hw'
        subst hw''
        have BZ := hid (bel_on B5.out (below_regrown w5 dq osq))
        clear B5
        go_wp2
        go_ret
        exact ⟨rfl, bel_on B1.out BZ.out⟩
end Go.Proofs.Ytemjmdfmcblgnaa.L15
