/- Package show, walked: what stands within a charge's braces. -/
import Derived.Test.YteelbdcgdkpioaaGreatDoorJSh6
namespace Go.Proofs.YteelbdcgdkpioaaGreatDoor.Sw
open Go.RowKit Go.Sort P Mm

def allowT (c : Charge) : List UInt8 := if c.allowance = 0 then [] else tellT 1 [wAllowance, nmbT c.allowance]
def blockT (c : Charge) : List UInt8 := if c.block = 1 then [] else tellT 1 [wBlock, nmbT c.block]
def tiersB (c : Charge) : List UInt8 := ln 1 (kindT c.kind ++ [32, 123]) ++ tiersUp c.tiers c.tiers.length ++ ln 1 [125]
def withinT (c : Charge) : List UInt8 := allowT c ++ blockT c ++ tiersB c ++ tellT 1 [wRound, modeT c.mode] ++ c.adjusts.flatMap adjT
theorem chargeT_eq (c : Charge) : chargeT c = ln 0 (wCharge ++ [32] ++ c.meter.data.toList ++ winT c.win ++ [32, 123]) ++ withinT c ++ ln 0 [125] := by
  unfold chargeT withinT allowT blockT tiersB
  simp only [List.append_assoc]
theorem allowT_len {c : Charge} (h : ShT c) : (allowT c).length ≤ 100 := by
  have h1 := nmbT_len h.i64.1.1
  unfold allowT
  split
  · simp
  · rw [tellT, ln, join2]
    simp only [List.length_append, List.length_replicate, List.length_cons, List.length_nil, wAllowance]
    omega
theorem blockT_len {c : Charge} (h : ShT c) : (blockT c).length ≤ 100 := by
  have h1 := nmbT_len h.i64.1.2
  unfold blockT
  split
  · simp
  · rw [tellT, ln, join2]
    simp only [List.length_append, List.length_replicate, List.length_cons, List.length_nil, wBlock]
    omega
theorem kindT_len (k : Int) : (kindT k).length ≤ 9 := by
  unfold kindT
  repeat' split
  all_goals simp [wGraduated, wVolume]
theorem tiersB_len {c : Charge} (h : ShT c) : (tiersB c).length ≤ 3000000 := by
  have h1 := tiersUp_len h.tiers c.tiers.length (Nat.le_refl _)
  have h2 := kindT_len c.kind
  have h3 := h.cnt.1
  unfold tiersB ln
  simp only [List.length_append, List.length_replicate, List.length_cons, List.length_nil]
  omega
theorem roundT_len (m : Int) : (tellT 1 [wRound, modeT m]).length ≤ 100 := by
  have h1 := modeT_len m
  rw [tellT, ln, join2]
  simp only [List.length_append, List.length_replicate, List.length_cons, List.length_nil, wRound]
  omega
theorem withinT_len {c : Charge} (h : ShT c) : (withinT c).length ≤ 10000000 := by
  have h1 := allowT_len h
  have h2 := blockT_len h
  have h3 := tiersB_len h
  have h4 := roundT_len c.mode
  have h5 := flat_le (f := adjT) (n := 100) c.adjusts (fun a ha => adjT_len (h.adjs a ha))
  have h6 := h.cnt.2
  unfold withinT
  simp only [List.length_append]
  omega
section
variable {K : World → Prop} (T : Tx K)
include T
set_option maxHeartbeats 16000000 in
set_option maxRecDepth 100000 in
theorem within_charge {w0 w : World} {k : Nat} {l : List UInt8} (c : Charge) (ta : Option Addr) (tc : Nat) (aa : Option Addr) (ac : Nat) (bw bc : Nat) (hc : ChargeLies w0 (chargeC c ta tc aa ac) c ta tc aa ac) (sc : ShT c) (h : Ow w0 w k l 1) (bs : Bs w k bw bc (chargeC c ta tc aa ac)) (hK : K w0) (hl : l.length + 100000000 ≤ 140737488355328) :
    Calls Tryz.prog 50 #[.pointer (some ⟨bc, 0, none⟩), .pointer (some ⟨bw, 0, none⟩)] w fun e w' => e = .returned (.tuple #[]) ∧ Ow w0 w' k (l ++ withinT c) 1 ∧ Kp w0.heap.size k w w' := by
  have zA := allowT_len sc
  have zB := blockT_len sc
  have zC := tiersB_len sc
  have zD := roundT_len c.mode
  have zK := kindT_len c.kind
  have NA : Hid (∀ W L, Ow w0 W k L 1 → L.length + 1000 ≤ 140737488355328 → Calls Tryz.prog 51 #[.pointer (some ⟨k, 0, none⟩), .string ⟨#[97, 108, 108, 111, 119, 97, 110, 99, 101]⟩, .int .i64 c.allowance] W fun e w' => e = .returned (.tuple #[]) ∧ Ow w0 w' k (L ++ tellT 1 [wAllowance, nmbT c.allowance]) 1 ∧ Kp w0.heap.size k W w') := hid fun W L o hl =>
    (number_any T ⟨#[97, 108, 108, 111, 119, 97, 110, 99, 101]⟩ c.allowance sc.nums.1 sc.i64.1.1 o.wr (T.keep hK o.bel) (by decide) (by decide) hl).mono fun e w' ⟨h1, h2, h3⟩ => ⟨h1, o.put h2 h3, h3⟩
  have NB : Hid (∀ W L, Ow w0 W k L 1 → L.length + 1000 ≤ 140737488355328 → Calls Tryz.prog 51 #[.pointer (some ⟨k, 0, none⟩), .string ⟨#[98, 108, 111, 99, 107]⟩, .int .i64 c.block] W fun e w' => e = .returned (.tuple #[]) ∧ Ow w0 w' k (L ++ tellT 1 [wBlock, nmbT c.block]) 1 ∧ Kp w0.heap.size k W w') := hid fun W L o hl =>
    (number_any T ⟨#[98, 108, 111, 99, 107]⟩ c.block sc.nums.2 sc.i64.1.2 o.wr (T.keep hK o.bel) (by decide) (by decide) hl).mono fun e w' ⟨h1, h2, h3⟩ => ⟨h1, o.put h2 h3, h3⟩
  obtain ⟨X, hX⟩ : ∃ S : ByteArray, S = ⟨(kindT c.kind).toArray⟩ := ⟨_, rfl⟩
  have NK : Hid (∀ W, Calls Tryz.prog 52 #[.int .i64 c.kind] W fun e w' => e = .returned (.string X) ∧ w' = W) := hid fun W => by rw [hX]; exact kind_any c.kind sc.i64.2.1 W
  have NT : Hid (∀ W L, Ow w0 W k L 1 → Bs W k bw bc (chargeC c ta tc aa ac) → L.length + 40000000 ≤ 140737488355328 → Calls Tryz.prog 49 #[.pointer (some ⟨k, 0, none⟩), .string X, .func (.func 53) #[] #[.pointer (some ⟨bw, 0, none⟩), .pointer (some ⟨bc, 0, none⟩)]] W fun e w' => e = .returned (.tuple #[]) ∧ Ow w0 w' k (L ++ tiersB c) 1 ∧ Kp w0.heap.size k W w') := hid fun W L o b hl => by
    have := brace_tiers (X := tiersUp c.tiers c.tiers.length) X bw bc (chargeC c ta tc aa ac) o b (by rw [hX, ba_size]; omega) (by have := tiersUp_len sc.tiers c.tiers.length (Nat.le_refl _); have := sc.cnt.1; omega) hl (fun W' L' o' b' hl' => within_tiers T c ta tc aa ac bw bc hc sc o' b' hK hl')
    rw [show X.data.toList = kindT c.kind by rw [hX]] at this
    exact this
  obtain ⟨Y, hY⟩ : ∃ S : ByteArray, S = ⟨(modeT c.mode).toArray⟩ := ⟨_, rfl⟩
  have zY : Y.size ≤ 8 := by rw [hY, ba_size]; exact modeT_len _
  have NM : Hid (∀ W, Below w0.heap.size w0 W → Calls Tryz.prog 10 #[.int .i64 c.mode] W fun e w' => e = .returned (.string Y) ∧ w' = W) := hid fun W b => by rw [hY]; exact mode_any T c.mode sc.i64.2.2 W (T.keep hK b)
  have eY : Hid (tellT 1 [wRound, modeT c.mode] = tellT 1 ([(⟨#[114, 111, 117, 110, 100]⟩ : ByteArray), Y].map (·.data.toList))) := hid (by rw [hY]; rfl)
  have NJ : Hid (∀ W L a, a ∈ c.adjusts → Ow w0 W k L 1 → L.length + 1000 ≤ 140737488355328 → Calls Tryz.prog 55 #[.pointer (some ⟨k, 0, none⟩), .agg #[.int .i64 a.kind, .int .i64 a.num, .int .i64 a.mode]] W fun e w' => e = .returned (.tuple #[]) ∧ Ow w0 w' k (L ++ adjT a) 1 ∧ Kp w0.heap.size k W w') := hid fun W L a ha o hl => adjust_any T a (sc.adjs a ha) o hK hl
  have HR := hid hc.adjusts
  have zJ : Hid (∀ i, ((c.adjusts.take i).flatMap adjT).length ≤ 3000000) := hid fun i => by
    have := take_flat_len (f := adjT) (n := 100) c.adjusts (fun a ha => adjT_len (sc.adjs a ha)) i
    have := sc.cnt.2
    omega
  obtain ⟨n, hN⟩ : ∃ n, n = c.adjusts.length := ⟨_, rfl⟩
  have HN := hid hN
  have hn : n ≤ 20000 := by rw [hN]; exact sc.cnt.2
  have H := hid h
  have HB := hid bs
  obtain ⟨al, hal⟩ : ∃ x, x = c.allowance := ⟨_, rfl⟩
  obtain ⟨bl, hbl⟩ : ∃ x, x = c.block := ⟨_, rfl⟩
  obtain ⟨A, hA⟩ : ∃ A, A = allowT c := ⟨_, rfl⟩
  obtain ⟨Bk, hBk⟩ : ∃ A, A = blockT c := ⟨_, rfl⟩
  obtain ⟨C, hC⟩ : ∃ A, A = tiersB c := ⟨_, rfl⟩
  obtain ⟨D, hD⟩ : ∃ A, A = tellT 1 [wRound, modeT c.mode] := ⟨_, rfl⟩
  have eA0 : Hid (al = 0 → A = []) := hid fun g => by rw [hA]; exact if_pos (hal ▸ g)
  have eA1 : Hid (¬ al = 0 → tellT 1 [wAllowance, nmbT c.allowance] = A) := hid fun g => by rw [hA]; exact (if_neg (hal ▸ g)).symm
  have eB0 : Hid (bl = 1 → Bk = []) := hid fun g => by rw [hBk]; exact if_pos (hbl ▸ g)
  have eB1 : Hid (¬ bl = 1 → tellT 1 [wBlock, nmbT c.block] = Bk) := hid fun g => by rw [hBk]; exact (if_neg (hbl ▸ g)).symm
  have eW : Hid (withinT c = A ++ Bk ++ C ++ D ++ c.adjusts.flatMap adjT) := hid (by rw [hA, hBk, hC, hD]; rfl)
  have cells : Hid (∀ W, Bs W k bw bc (chargeC c ta tc aa ac) → W.cell? ⟨bw, 0, none⟩ = some (.pointer (some ⟨k, 0, none⟩)) ∧ W.cell? ⟨bc, 8, none⟩ = some (.int .i64 al) ∧ W.cell? ⟨bc, 9, none⟩ = some (.int .i64 bl) ∧ W.cell? ⟨bc, 10, none⟩ = some (.int .i64 c.kind) ∧ W.cell? ⟨bc, 12, none⟩ = some (.int .i64 c.mode) ∧ W.cell? ⟨bc, 13, none⟩ = some (.slice aa n ac)) := hid fun W b => ⟨b.w, by rw [hal]; exact b.c 8 rfl, by rw [hbl]; exact b.c 9 rfl, b.c 10 rfl, b.c 12 rfl, by rw [hN]; exact b.c 13 rfl⟩
  rw [← hal] at NA
  rw [← hbl] at NB
  rw [← hD] at eY
  have ZA : Hid (A.length ≤ 100 ∧ Bk.length ≤ 100 ∧ C.length ≤ 3000000 ∧ D.length ≤ 100) := hid ⟨by rw [hA]; exact zA, by rw [hBk]; exact zB, by rw [hC]; exact zC, by rw [hD]; exact zD⟩
  rw [← hC] at NT
  rw [← hal] at eA1
  rw [← hbl] at eB1
  have K4 : Hid (∀ w', Kp w0.heap.size k w w' → w'.cell? ⟨bw, 0, none⟩ = some (.pointer (some ⟨k, 0, none⟩)) ∧ w'.cell? ⟨bc, 10, none⟩ = some (.int .i64 c.kind) ∧ Kp w0.heap.size k w w') := hid fun w' g => ⟨(bs.kp g).w, (bs.kp g).c 10 rfl, g⟩
  have K5 : Hid (∀ w', Kp w0.heap.size k w w' → w'.cell? ⟨bw, 0, none⟩ = some (.pointer (some ⟨k, 0, none⟩)) ∧ w'.cell? ⟨bc, 12, none⟩ = some (.int .i64 c.mode) ∧ Kp w0.heap.size k w w') := hid fun w' g => ⟨(bs.kp g).w, (bs.kp g).c 12 rfl, g⟩
  have BS : Hid (∀ w', Kp w0.heap.size k w w' → Bs w' k bw bc (chargeC c ta tc aa ac)) := hid fun w' g => bs.kp g
  clear hA hBk hC hD hal hbl hN hX hY zA zB zC zD zK h bs hc sc hK T
  rw [eW.out]
  go_enter Tryz.func50, Tryz.ntmps50
  obtain ⟨d0, d8, d9, d10, d12, d13⟩ := cells.out w HB.out
  clear d9 d10 d12 d13
  rcases Classical.em (al = 0) with g | g
  all_goals first
    | (have g0 : al = 0 := g
       have O1 : Hid (Ow w0 w k (l ++ A) 1) := hid (by rw [eA0.out g0, List.append_nil]; exact H.out)
       have K1 := hid (Kp.refl w0.heap.size k w)
       have B1 := HB
       subst g0
       go_upto_region 2 with fail)
    | (go_upto_region 2 with (go_at_call 51; refine (NA.out w l H.out (by omega)).mono ?_; rintro e w1 ⟨rfl, q, kp⟩; rw [eA1.out g] at q; have O1 := hid q; have K1 := hid kp; have B1 := hid (HB.out.kp kp); clear q kp))
  all_goals
    clear g d0 d8 eA0 eA1 NA H HB
    obtain ⟨d0, d8, d9, d10, d12, d13⟩ := cells.out _ B1.out
    clear d8 d10 d12 d13
  all_goals rcases Classical.em (bl = 1) with g | g
  all_goals first
    | (have g0 : bl = 1 := g
       have O2 : Hid (Ow w0 _ k (l ++ A ++ Bk) 1) := hid (by rw [eB0.out g0, List.append_nil]; exact O1.out)
       have K2 := K1
       have B2 := B1
       subst g0
       go_upto_region 4 with fail)
    | (go_upto_region 4 with (go_at_call 51; refine (NB.out _ _ O1.out (by rw [List.length_append]; have := ZA.out.1; omega)).mono ?_; rintro e w2 ⟨rfl, q, kp⟩; rw [eB1.out g] at q; have O2 := hid q; have K2 := hid (K1.out.trans kp); have B2 := hid (B1.out.kp kp); clear q kp))
  all_goals
    clear g d0 d9 eB0 eB1 NB O1 K1 B1
    have OO := hid (O2.out.on (Below.drew (Below.refl _ _)))
    have KK := hid (K2.out.trans (Kp.of (Below.drew (Below.refl _ _)) O2.out.wr.size))
    clear O2 K2 B2
    go_region_held_law (fun w' => w'.cell? ⟨bw, 0, none⟩ = some (.pointer (some ⟨k, 0, none⟩)) ∧ w'.cell? ⟨bc, 10, none⟩ = some (.int .i64 c.kind) ∧ Kp w0.heap.size k w w')
      ((first | (refine K4.out _ ?_; exact KK.out)))
      (first
        | (go_at_call 52
           refine (NK.out _).mono ?_
           rintro e w' ⟨rfl, b⟩
           subst b)
        | (go_at_call 49
           refine (NT.out _ _ OO.out (BS.out _ KK.out) (by rw [List.length_append, List.length_append]; have := ZA.out; omega)).mono ?_
           rintro e w' ⟨rfl, q, kp⟩
           replace OO := hid q
           replace KK := hid (KK.out.trans kp)
           clear q kp))
  all_goals
    clear K4 NK NT
    go_upto_region 5 with fail
    have O5 := hid (OO.out.on (Below.drew (Below.refl _ _)))
    replace KK := hid (KK.out.trans (Kp.of (Below.drew (Below.refl _ _)) OO.out.wr.size))
    clear OO
    go_region_held_law (fun w' => w'.cell? ⟨bw, 0, none⟩ = some (.pointer (some ⟨k, 0, none⟩)) ∧ w'.cell? ⟨bc, 12, none⟩ = some (.int .i64 c.mode) ∧ Kp w0.heap.size k w w')
      ((first | (refine K5.out _ ?_; exact KK.out) | (refine K5.out _ ?_; exact KK.out.trans (Kp.of (bel_alloc _ _) O5.out.wr.size))))
      (first
        | (go_at_call 10
           refine (NM.out _ O5.out.bel).mono ?_
           rintro e w' ⟨rfl, b⟩
           subst b)
        | (go_at_call 25
           refine (tell_new [(⟨#[114, 111, 117, 110, 100]⟩ : ByteArray), Y] O5.out.wr (by decide) (by show 2 ≤ 100; decide) (by rw [jl2]; show _ + (5 + Y.size + 1) + 300 ≤ _; rw [List.length_append, List.length_append, List.length_append]; have := ZA.out; omega)).mono ?_
           rintro e w' ⟨rfl, q, kp⟩
           rw [← eY.out] at q
           replace O5 := hid (O5.out.put q kp)
           replace KK := hid (KK.out.trans kp)
           clear q kp))
  all_goals
    clear K5 NM eY zY
    obtain ⟨d0, d8, d9, d10, d12, d13⟩ := cells.out _ (BS.out _ KK.out)
    clear d0 d8 d9 d10 d12
    go_wp2
    clear d13
    go_loopw [33] (fun i wr => ∃ i' : Nat, i = .int .i64 (i' : Int) ∧ i' ≤ n ∧ Hid (Ow w0 wr k (l ++ A ++ Bk ++ C ++ D ++ (c.adjusts.take i').flatMap adjT) 1) ∧ Hid (Kp w0.heap.size k w wr)) (fun i _ => n - (intOf i).toNat)
  all_goals first
    | (show ∃ _, _
       exact ⟨0, rfl, Nat.zero_le _, hid (by rw [List.take_zero, List.flatMap_nil, List.append_nil]; exact O5.out), KK⟩)
    | skip
  all_goals
    obtain ⟨i', rfl, hi, hh, hk⟩ := hrel
    clear O5 KK
    by_cases hlt : i' < n
    · obtain ⟨a, hti⟩ : ∃ a, c.adjusts[i']? = some a := ⟨_, List.getElem?_eq_getElem (by have := HN.out; omega)⟩
      obtain ⟨b, o, e, lb, a0, a1, a2, _⟩ := R6.adj_at (HR.out.on hh.out.bel) hti
      have ST : Hid ((c.adjusts.take (i' + 1)).flatMap adjT = (c.adjusts.take i').flatMap adjT ++ adjT a) := hid (flat_take hti)
      have hma := hid (List.mem_of_getElem? hti)
      have hlen : (l ++ A ++ Bk ++ C ++ D ++ (c.adjusts.take i').flatMap adjT).length + 1000 ≤ 140737488355328 := by
        have := zJ.out i'
        have := ZA.out
        simp only [List.length_append]
        omega
      have HL := hid hlen
      obtain ⟨w1, hw1⟩ : ∃ W, W = wr.alloc (.cells #[.int .i64 a.kind, .int .i64 a.num, .int .i64 a.mode] 100) := ⟨_, rfl⟩
      have b1 : Below wr.heap.size wr w1 := by rw [hw1]; exact bel_alloc _ _
      have hb1 : w1.heap[wr.heap.size]? = some (.cells #[.int .i64 a.kind, .int .i64 a.num, .int .i64 a.mode] 100 (0, 0)) := by rw [hw1]; exact aC_heap _ _ _
      have O1 := hid (hh.out.on b1)
      have K1 := hid (hk.out.trans (Kp.of b1 hh.out.wr.size))
      have d0 : w1.cell? ⟨bw, 0, none⟩ = some (.pointer (some ⟨k, 0, none⟩)) := (BS.out _ K1.out).w
      have t0 : w1.cell? ⟨wr.heap.size, 0, none⟩ = some (.int .i64 a.kind) := by rw [cell_of hb1]; rfl
      have t1 : w1.cell? ⟨wr.heap.size, 1, none⟩ = some (.int .i64 a.num) := by rw [cell_of hb1]; rfl
      have t2 : w1.cell? ⟨wr.heap.size, 2, none⟩ = some (.int .i64 a.mode) := by rw [cell_of hb1]; rfl
      have HW := hid hw1
      clear hti hw1 b1 hb1 hlen
      subst e
      go_upto_region 9 with fail
      rw [← HW.out]
      clear HW a0 a1 a2
      go_wp2_with (go_at_call 55; refine (NJ.out w1 _ a hma.out O1.out HL.out).mono ?_; rintro e w2 ⟨rfl, q, kp⟩; have O2 := hid q; have K2 := hid (K1.out.trans kp); clear q kp d0 t0 t1 t2)
      go_roundw
      case rel => exact ⟨i' + 1, by simp, by omega, hid (by rw [ST.out, ← List.append_assoc]; exact O2.out), K2⟩
      case measure => simp [intOf]; omega
    · obtain rfl : i' = n := by omega
      go_wp2
      go_end0
      refine ⟨rfl, ?_, hk.out⟩
      have := hh.out
      rw [HN.out, List.take_length] at this
      simpa only [List.append_assoc] using this
end
end Go.Proofs.YteelbdcgdkpioaaGreatDoor.Sw
