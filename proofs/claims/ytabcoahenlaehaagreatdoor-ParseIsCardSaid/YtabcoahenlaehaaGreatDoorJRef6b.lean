/- What the document's answers for layer 6 (poundageref06) come to: Places, Ints, Texts. -/
import Derived.Test.YtabcoahenlaehaaGreatDoorJRef6
import Derived.Deep.Onto
namespace Go.Proofs.YtabcoahenlaehaaGreatDoor.R6
open Go.RowKit Go.Sort P Mm

def ints (l : List Int) : List Value := l.flatMap fun x => [.int .i64 x]
theorem ints_app (a b : List Int) : ints (a ++ b) = ints a ++ ints b := by unfold ints; rw [List.flatMap_append]
def mP (m : Meter) : List Int := [m.line, m.col]
def fP (f : Fee) : List Int := [f.line, f.col]
def cP (c : Charge) : List Int := [c.line, c.col]
def places (p : Plan) : List Int := [p.line, p.col] ++ p.meters.flatMap mP ++ p.fees.flatMap fP ++ p.charges.flatMap cP
theorem info_int : (Tryz.prog.info? 3).map (fun i => (i.zero, i.size, i.bytes)) = some (some (.int .i64 0), 1, 8) := by kernel_rfl
theorem und_ints : Tryz.prog.underlying 39 = some (.slice 3) := by kernel_rfl
theorem flat_len {α β : Type} {f : α → List β} {n : Nat} (h : ∀ x, (f x).length = n) : ∀ l : List α, (l.flatMap f).length = l.length * n
  | [] => by simp
  | x :: r => by rw [List.flatMap_cons, List.length_append, h, flat_len h r, List.length_cons, Nat.succ_mul]; omega
set_option maxHeartbeats 4000000 in
theorem places_any (p : Plan) (ma : Option Addr) (mc : Nat) (fa : Option Addr) (fc : Nat) (ca : Option Addr) (cc : Nat) (w : World) (hp : PlanLies w (planC p ma mc fa fc ca cc) p ma mc fa fc ca cc)
    (hs1 : p.meters.length ≤ 20000) (hs2 : p.fees.length ≤ 20000) (hs3 : p.charges.length ≤ 20000) :
    Calls Tryz.prog 9 #[.agg (planC p ma mc fa fc ca cc).toArray] w fun e w' => ∃ v, e = .returned v ∧ w'.ownsRow w.heap.size 3 1 v (places p).length (ints (places p)) ∧ Below w.heap.size w w' := by
  obtain ⟨i0, hi, hz0, hz1, hz2⟩ := info_parts info_int
  obtain ⟨w1, hw1⟩ : ∃ w1, w1 = w.alloc (.cells (planC p ma mc fa fc ca cc).toArray 29) := ⟨_, rfl⟩
  have b1 : Below w.heap.size w w1 := by rw [hw1]; exact bel_alloc _ _
  have s1 := hid (show w1.heap.size = w.heap.size + 1 by rw [hw1]; simp)
  have hM := hid hp.meters
  have hF := hid hp.fees
  have hC := hid hp.charges
  clear hp
  unfold planC at hw1 ⊢
  have HW := hid hw1
  clear hw1
  go_enter Tryz.func9, Tryz.ntmps9
  go_wp2
  rw [← HW.out]
  have own0 : Hid ((w1.alloc (.cells #[.int .i64 p.line, .int .i64 p.col] 3)).ownsRow w1.heap.size 3 1 (.slice (some ⟨w.heap.size + 1, 0, none⟩) 2 2) 2 (ints [p.line, p.col])) := hid (by rw [← s1.out]; exact World.ownsRow_lit w1 #[.int .i64 p.line, .int .i64 p.col] 2 (Nat.le_refl _) (by decide) rfl)
  go_loopw [3, 18] (fun v i wr => ∃ (i' : Int) (N : Nat) (L : List Int), i = .int .i64 i' ∧ 0 ≤ i' ∧ i' ≤ p.meters.length ∧ N = 2 + 2 * i'.toNat ∧ Hid (L = [p.line, p.col] ++ (p.meters.take i'.toNat).flatMap mP) ∧ Hid (wr.ownsRow w1.heap.size 3 1 v N (ints L)) ∧ Hid (Below w1.heap.size w1 wr)) (fun _ i _ => ((p.meters.length : Int) - intOf i).toNat)
  case atStart => exact ⟨0, 2, [p.line, p.col], rfl, by omega, by omega, rfl, hid rfl, own0, hid (bel_alloc _ _)⟩
  case round =>
    obtain ⟨i', N, L, rfl, i0', i1, hN, hL, hO, hb⟩ := hrel
    have bb := bel_on b1 hb.out
    by_cases hlt : i' < p.meters.length
    · have hil : i'.toNat < p.meters.length := by omega
      have ht : p.meters[i'.toNat]? = some (p.meters[i'.toNat]'hil) := List.getElem?_eq_getElem hil
      obtain ⟨m, hm⟩ : ∃ m, m = p.meters[i'.toNat]'hil := ⟨_, rfl⟩
      rw [← hm] at ht
      obtain ⟨b, o, e, lb, a0, a1, a2, a3, a4, _⟩ := meter_at (hM.out.on bb) ht
      subst e
      have hT := hid ht
      have hsz := hb.out.size
      have hNN : N ≤ 50000 := by omega
      have HN := hid hN
      clear hm ht bb hN
      go_wp2_with (at_builtin; refine wpList_append_own _ rfl _ _ 39 rfl w1.heap.size 3 i0 (.int .i64 0) 1 8 und_ints hi hz0 hz1 hz2 rfl (by decide) _ _ _ rfl ((hO.out.alloc _).alloc _) ⟨wr.heap.size + 1, 0, none⟩ 2 2 [.int .i64 m.line, .int .i64 m.col] rfl rfl ?c1 ?c2 ?c3 ?c4 ?c5 ?_)
      case c1 =>
        intro j u hj
        match j, hj with
        | 0, hj => simp at hj; subst hj; simp [Addr.add]
        | 1, hj => simp at hj; subst hj; simp [Addr.add]
      case c2 => simp [Value.oneCell']
      case c3 => unfold maxLen; omega
      case c4 => omega
      case c5 => simp; omega
      intro v' w2 hown hgrow _
      go_wp2
      go_roundw
      case rel => exact ⟨i' + 1, N + 2, L ++ [m.line, m.col], rfl, by omega, by omega, by have := HN.out; omega, hid (by
        rw [show (i' + 1).toNat = i'.toNat + 1 by omega, flat_take hT.out, ← List.append_assoc, ← hL.out]; rfl), hid (by
        rw [ints_app]
        exact hown), hid (((hb.out.alloc hb.out.size _).alloc (hb.out.alloc hb.out.size _).size _).grown hgrow (by simp; omega) (fun k hk => (hO.out.lt k hk).1))⟩
      case measure => simp [intOf]; omega
    · obtain rfl : i' = p.meters.length := by omega
      rw [Int.toNat_natCast] at hN
      have hL1 : Hid (L = [p.line, p.col] ++ p.meters.flatMap mP) := hid (by rw [hL.out, Int.toNat_natCast, flat_whole])
      have N1 : N ≤ 40002 := by omega
      have HN := hid hN
      have hsz := hb.out.size
      have lw : w.heap.size < wr.heap.size := by rw [s1.out] at hsz; omega
      have c9 : wr.cell? ⟨w.heap.size, 9, none⟩ = some (.slice fa p.fees.length fc) := by
        rw [hb.out.cell (by rw [s1.out]; simp), HW.out, World.cell?_alloc_new]; rfl
      clear hL hN bb
      go_wp2
      clear c9
      go_loopw [3, 33] (fun v i wr => ∃ (i' : Int) (M : Nat) (L2 : List Int), i = .int .i64 i' ∧ 0 ≤ i' ∧ i' ≤ p.fees.length ∧ M = N + 2 * i'.toNat ∧ Hid (L2 = L ++ (p.fees.take i'.toNat).flatMap fP) ∧ Hid (wr.ownsRow w1.heap.size 3 1 v M (ints L2)) ∧ Hid (Below w1.heap.size w1 wr)) (fun _ i _ => ((p.fees.length : Int) - intOf i).toNat)
      case atStart => exact ⟨0, N, L, rfl, by omega, by omega, rfl, hid (by simp), hO, hb⟩
      case round =>
        obtain ⟨i', M, L2, rfl, j0, j1, hM2, hL2, hO2, hb2⟩ := hrel
        have bb := bel_on b1 hb2.out
        by_cases hlt : i' < p.fees.length
        · have hil : i'.toNat < p.fees.length := by omega
          have ht : p.fees[i'.toNat]? = some (p.fees[i'.toNat]'hil) := List.getElem?_eq_getElem hil
          obtain ⟨m, hm⟩ : ∃ m, m = p.fees[i'.toNat]'hil := ⟨_, rfl⟩
          rw [← hm] at ht
          obtain ⟨b, o, e, lb, a0, a1, a2, a3, a4, a5, a6, a7, a8, a9, _⟩ := fee_at (hF.out.on bb) ht
          subst e
          have hT := hid ht
          have hsz2 := hb2.out.size
          have hNN : M ≤ 90000 := by omega
          have HM := hid hM2
          clear hm ht bb hM2 hsz lw
          go_wp2_with (at_builtin; refine wpList_append_own _ rfl _ _ 39 rfl w1.heap.size 3 i0 (.int .i64 0) 1 8 und_ints hi hz0 hz1 hz2 rfl (by decide) _ _ _ rfl ((hO2.out.alloc _).alloc _) ⟨wr.heap.size + 1, 0, none⟩ 2 2 [.int .i64 m.line, .int .i64 m.col] rfl rfl ?c1 ?c2 ?c3 ?c4 ?c5 ?_)
          case c1 =>
            intro j u hj
            match j, hj with
            | 0, hj => simp at hj; subst hj; simp [Addr.add]
            | 1, hj => simp at hj; subst hj; simp [Addr.add]
          case c2 => simp [Value.oneCell']
          case c3 => unfold maxLen; omega
          case c4 => omega
          case c5 => simp; omega
          intro v' w2 hown hgrow _
          go_wp2
          go_roundw
          case rel => exact ⟨i' + 1, M + 2, L2 ++ [m.line, m.col], rfl, by omega, by omega, by have := HM.out; omega, hid (by
            rw [show (i' + 1).toNat = i'.toNat + 1 by omega, flat_take hT.out, ← List.append_assoc, ← hL2.out]; rfl), hid (by
            rw [ints_app]
            exact hown), hid (((hb2.out.alloc hb2.out.size _).alloc (hb2.out.alloc hb2.out.size _).size _).grown hgrow (by simp; omega) (fun k hk => (hO2.out.lt k hk).1))⟩
          case measure => simp [intOf]; omega
        · obtain rfl : i' = p.fees.length := by omega
          rw [Int.toNat_natCast] at hM2
          have hL3 : Hid (L2 = [p.line, p.col] ++ p.meters.flatMap mP ++ p.fees.flatMap fP) := hid (by rw [hL2.out, Int.toNat_natCast, flat_whole, hL1.out])
          have N2 : M ≤ 80002 := by omega
          have HM := hid (show M = 2 + 2 * p.meters.length + 2 * p.fees.length by have := HN.out; omega)
          have hsz2 := hb2.out.size
          have c10 : wr.cell? ⟨w.heap.size, 10, none⟩ = some (.slice ca p.charges.length cc) := by
            rw [hb2.out.cell (by rw [s1.out]; simp), HW.out, World.cell?_alloc_new]; rfl
          have lw2 : w.heap.size < wr.heap.size := by rw [s1.out] at hsz2; omega
          clear hL2 hM2 bb hsz lw
          go_wp2
          clear c10
          go_loopw [3, 48] (fun v i wr => ∃ (i' : Int) (M2 : Nat) (L3 : List Int), i = .int .i64 i' ∧ 0 ≤ i' ∧ i' ≤ p.charges.length ∧ M2 = M + 2 * i'.toNat ∧ Hid (L3 = L2 ++ (p.charges.take i'.toNat).flatMap cP) ∧ Hid (wr.ownsRow w1.heap.size 3 1 v M2 (ints L3)) ∧ Hid (Below w1.heap.size w1 wr)) (fun _ i _ => ((p.charges.length : Int) - intOf i).toNat)
          case atStart => exact ⟨0, M, L2, rfl, by omega, by omega, rfl, hid (by simp), hO2, hb2⟩
          case round =>
            obtain ⟨i', M2, L3, rfl, k0, k1, hM3, hL4, hO3, hb3⟩ := hrel
            have bb := bel_on b1 hb3.out
            by_cases hlt : i' < p.charges.length
            · have hil : i'.toNat < p.charges.length := by omega
              have ht : p.charges[i'.toNat]? = some (p.charges[i'.toNat]'hil) := List.getElem?_eq_getElem hil
              obtain ⟨c, hm⟩ : ∃ m, m = p.charges[i'.toNat]'hil := ⟨_, rfl⟩
              rw [← hm] at ht
              obtain ⟨b, o, ta, tc, aa, ac, e, hat, _⟩ := charge_at (hC.out.on bb) ht
              obtain ⟨lb, a0, a1, a2, a3, a4, a5, a6, a7, a8, a9, a10, a11, a12, a13, a14, a15⟩ := hat
              subst e
              have hT := hid ht
              have hsz3 := hb3.out.size
              have hNN : M2 ≤ 130000 := by omega
              have HM2 := hid hM3
              clear hm ht bb hM3 hsz2 lw2
              go_wp2_with (at_builtin; refine wpList_append_own _ rfl _ _ 39 rfl w1.heap.size 3 i0 (.int .i64 0) 1 8 und_ints hi hz0 hz1 hz2 rfl (by decide) _ _ _ rfl ((hO3.out.alloc _).alloc _) ⟨wr.heap.size + 1, 0, none⟩ 2 2 [.int .i64 c.line, .int .i64 c.col] rfl rfl ?c1 ?c2 ?c3 ?c4 ?c5 ?_)
              case c1 =>
                intro j u hj
                match j, hj with
                | 0, hj => simp at hj; subst hj; simp [Addr.add]
                | 1, hj => simp at hj; subst hj; simp [Addr.add]
              case c2 => simp [Value.oneCell']
              case c3 => unfold maxLen; omega
              case c4 => omega
              case c5 => simp; omega
              intro v' w2 hown hgrow _
              go_wp2
              go_roundw
              case rel => exact ⟨i' + 1, M2 + 2, L3 ++ [c.line, c.col], rfl, by omega, by omega, by have := HM2.out; omega, hid (by
                rw [show (i' + 1).toNat = i'.toNat + 1 by omega, flat_take hT.out, ← List.append_assoc, ← hL4.out]; rfl), hid (by
                rw [ints_app]
                exact hown), hid (((hb3.out.alloc hb3.out.size _).alloc (hb3.out.alloc hb3.out.size _).size _).grown hgrow (by simp; omega) (fun k hk => (hO3.out.lt k hk).1))⟩
              case measure => simp [intOf]; omega
            · obtain rfl : i' = p.charges.length := by omega
              rw [Int.toNat_natCast] at hM3
              have hfin : L3 = places p := by rw [hL4.out, Int.toNat_natCast, flat_whole, hL3.out]; rfl
              have hlen : (places p).length = M2 := by
                unfold places
                simp only [List.length_append, flat_len (f := mP) (n := 2) (fun _ => rfl), flat_len (f := fP) (n := 2) (fun _ => rfl), flat_len (f := cP) (n := 2) (fun _ => rfl)]
                rw [hM3, HM.out]
                show 2 + _ + _ + _ = _
                omega
              have Fin := hid hfin
              have Len := hid hlen
              have BB := hid bb
              clear hfin hlen hM3 hL4 bb
              go_wp2
              refine bodyPost_ret (v := u3) (by simp [results, Tryz.results9, go_sem]) rfl ⟨_, rfl, ?_, BB.out⟩
              rw [Len.out, ← Fin.out]
              exact hO3.out.mono b1.size
end Go.Proofs.YtabcoahenlaehaaGreatDoor.R6
