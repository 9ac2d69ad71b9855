/- Package show, walked: tiers. -/
import Derived.Test.YteelbdcgdkpioaaGreatDoorJSh4
import Derived.Test.YteelbdcgdkpioaaGreatDoorJRef6
namespace Go.Proofs.YteelbdcgdkpioaaGreatDoor.Sw
open Go.RowKit Go.Sort P Mm

theorem tiersUp_step {ts : List Tier} {i : Nat} {t : Tier} (ht : ts[i]? = some t) {b : Bool} (hb : decide (i + 1 = ts.length) = b) : tiersUp ts (i + 1) = tiersUp ts i ++ tierT b t := by
  rw [tiersUp, hb, List.getD_eq_getElem?_getD, ht]; rfl
section
variable {K : World → Prop} (T : Tx K)
include T
set_option maxHeartbeats 4000000 in
set_option maxRecDepth 100000 in
theorem tiers_any {w0 w : World} {k : Nat} {l : List UInt8} (ts : List Tier) (ta : Option Addr) (tc : Nat) (ht : Row tTier w0 ta ts.length tc ts) (hg : ∀ t ∈ ts, (0 ≤ t.upto ∧ I64 t.upto) ∧ 0 ≤ t.rate ∧ I64 t.rate) (hn : ts.length ≤ 20000) (h : Ow w0 w k l 2) (hK : K w0) (hl : l.length + 3000000 ≤ 140737488355328) :
    Calls Tryz.prog 54 #[.pointer (some ⟨k, 0, none⟩), .slice ta ts.length tc] w fun e w' => e = .returned (.tuple #[]) ∧ Ow w0 w' k (l ++ tiersUp ts ts.length) 2 ∧ Kp w0.heap.size k w w' := by
  have H := hid h
  have HT := hid ht
  have HG := hid hg
  obtain ⟨n, hN⟩ : ∃ n, n = ts.length := ⟨_, rfl⟩
  have HN := hid hN
  have hn' : n ≤ 20000 := by omega
  rw [← hN]
  clear h ht hg hn hN
  go_enter Tryz.func54, Tryz.ntmps54
  go_wp2
  go_loopw [9] (fun i wr => ∃ i' : Nat, i = .int .i64 (i' : Int) ∧ i' ≤ n ∧ Hid (Ow w0 wr k (l ++ tiersUp ts i') 2) ∧ Hid (Kp w0.heap.size k w wr)) (fun i _ => n - (intOf i).toNat)
  case atStart => exact ⟨0, rfl, Nat.zero_le _, hid (by show Ow w0 w k (l ++ []) 2; rw [List.append_nil]; exact H.out), hid (Kp.refl _ k w)⟩
  case round =>
    obtain ⟨i', rfl, hi, hh, hk⟩ := hrel
    by_cases hlt : i' < n
    · have hlt2 : i' < ts.length := by have := HN.out; omega
      obtain ⟨t, hti⟩ : ∃ t, ts[i']? = some t := ⟨_, List.getElem?_eq_getElem hlt2⟩
      have g := HG.out t (List.mem_of_getElem? hti)
      obtain ⟨b, o, e, lb, a0, a1, _⟩ := R6.tier_at (HT.out.on hh.out.bel) hti
      have hlen : (l ++ tiersUp ts i').length + 1000 ≤ 140737488355328 := by
        have := tiersUp_len HG.out i' (by omega)
        rw [List.length_append]
        omega
      have HL := hid hlen
      obtain ⟨X, hX⟩ : ∃ S : ByteArray, S = ⟨(decT t.rate (6 : Int).toNat).toArray⟩ := ⟨_, rfl⟩
      obtain ⟨Y, hY⟩ : ∃ S : ByteArray, S = ⟨(nmbT t.upto).toArray⟩ := ⟨_, rfl⟩
      have zX : X.size ≤ 30 := by rw [hX, ba_size]; exact decT_len g.2.2 (by decide)
      have zY : Y.size ≤ 20 := by rw [hY, ba_size]; exact nmbT_len g.1.2
      have cD := fun W hb => T.dec t.rate 6 W (T.keep hK (w' := W) hb) g.2.1 g.2.2 (by decide) (by decide)
      have cI := fun W hb => T.itoa t.upto W (T.keep hK (w' := W) hb) g.1.1 g.1.2
      rw [← hX] at cD
      rw [← hY] at cI
      have CD := hid cD
      have CI := hid cI
      have HTI := hid hti
      have HX := hid hX
      have HY := hid hY
      obtain ⟨wt, hwt⟩ : ∃ W, W = wr.alloc (.cells #[.int .i64 t.upto, .int .i64 t.rate] 97) := ⟨_, rfl⟩
      have hbt : wt.heap[wr.heap.size]? = some (.cells #[.int .i64 t.upto, .int .i64 t.rate] 97 (0, 0)) := by rw [hwt]; exact aC_heap _ _ _
      have bt : Below wr.heap.size wr wt := by rw [hwt]; exact bel_alloc _ _
      have HBT := hid hbt
      have OT := hid (hh.out.on bt)
      have KT : Hid (Kp w0.heap.size k wr wt) := hid (Kp.of bt hh.out.wr.size)
      have HWT := hid hwt
      have hkr : k < wr.heap.size := hh.out.wr.lt
      have t1 : wt.cell? ⟨wr.heap.size, 1, none⟩ = some (.int .i64 t.rate) := by rw [cell_of hbt]; rfl
      clear hlen g hti cD cI hX hY hwt hbt bt
      subst e
      go_upto_region 3 with fail
      rw [← HWT.out]
      clear HWT a0 a1
      go_wp2_with fail
      refine (CD.out wt OT.out.bel).mono ?_
      rintro e w2 ⟨rfl, b2⟩
      have O2 := hid (OT.out.on b2)
      have K2 := hid (KT.out.trans (Kp.of b2 OT.out.wr.size))
      have t0 : w2.cell? ⟨wr.heap.size, 0, none⟩ = some (.int .i64 t.upto) := by rw [cell_of ((Kp.of b2 OT.out.wr.size).at HBT.out (Nat.ne_of_gt hkr) (by decide))]; rfl
      clear b2 t1
      by_cases hlast : i' + 1 = n
      · have he : ((i' : Nat) : Int) = (n : Int) - 1 := by omega
        have ST : Hid (tiersUp ts (i' + 1) = tiersUp ts i' ++ tellT 2 ([(⟨#[114, 101, 115, 116, 32, 114, 97, 116, 101]⟩ : ByteArray), X].map (·.data.toList))) := hid (by
          rw [tiersUp_step HTI.out (b := true) (by rw [← HN.out]; exact decide_eq_true hlast), HX.out]; rfl)
        clear t0
        go_wp2_with fail
        refine (tell_new [(⟨#[114, 101, 115, 116, 32, 114, 97, 116, 101]⟩ : ByteArray), X] O2.out.wr (by decide) (by show 2 ≤ 100; decide) (by rw [jl2]; show _ + (9 + X.size + 1) + 300 ≤ _; have := HL.out; omega)).mono ?_
        rintro e w3 ⟨rfl, q, kp⟩
        have O3 := hid (O2.out.put q kp)
        have K3 := hid (hk.out.trans (K2.out.trans kp))
        clear q kp
        go_wp2
        go_roundw
        case rel => exact ⟨i' + 1, (by first | (simp; done) | (simp; omega)), by omega, hid (by rw [ST.out, ← List.append_assoc]; exact O3.out), K3⟩
        case measure => simp [intOf]; omega
      · have he : ¬ ((i' : Nat) : Int) = (n : Int) - 1 := by omega
        have ST : Hid (tiersUp ts (i' + 1) = tiersUp ts i' ++ tellT 2 ([(⟨#[117, 112, 116, 111]⟩ : ByteArray), Y, (⟨#[114, 97, 116, 101]⟩ : ByteArray), X].map (·.data.toList))) := hid (by
          rw [tiersUp_step HTI.out (b := false) (by rw [← HN.out]; exact decide_eq_false hlast), HX.out, HY.out]; rfl)
        go_wp2_with fail
        refine (CI.out w2 O2.out.bel).mono ?_
        rintro e w3 ⟨rfl, b3⟩
        have O3 := hid (O2.out.on b3)
        have K3 := hid (K2.out.trans (Kp.of b3 O2.out.wr.size))
        clear b3 t0
        go_wp2_with fail
        refine (tell_new [(⟨#[117, 112, 116, 111]⟩ : ByteArray), Y, (⟨#[114, 97, 116, 101]⟩ : ByteArray), X] O3.out.wr (by decide) (by show 4 ≤ 100; decide) (by rw [jl4]; show _ + (4 + Y.size + 4 + X.size + 3) + 300 ≤ _; have := HL.out; omega)).mono ?_
        rintro e w4 ⟨rfl, q, kp⟩
        have O4 := hid (O3.out.put q kp)
        have K4 := hid (hk.out.trans (K3.out.trans kp))
        clear q kp
        go_wp2
        go_roundw
        case rel => exact ⟨i' + 1, (by first | (simp; done) | (simp; omega)), by omega, hid (by rw [ST.out, ← List.append_assoc]; exact O4.out), K4⟩
        case measure => simp [intOf]; omega
    · obtain rfl : i' = n := by omega
      go_wp2
      go_end0
      exact ⟨rfl, hh.out, hk.out⟩
end
end Go.Proofs.YteelbdcgdkpioaaGreatDoor.Sw
/- Package show, walked: braces, and what stands within: tiers. -/
namespace Go.Proofs.YteelbdcgdkpioaaGreatDoor.Sw
open Go.RowKit Go.Sort P Mm

/-- What a closure holds: the writer's pointer, and a charge, each in a block. -/
structure Bs (w : World) (k bw bc : Nat) (cs : List Value) : Prop where
  hw : w.heap[bw]? = some (.cells #[.pointer (some ⟨k, 0, none⟩)] 101 (0, 0))
  hc : w.heap[bc]? = some (.cells cs.toArray 52 (0, 0))
  nw : bw ≠ k
  nc : bc ≠ k
theorem Bs.kp {B : Nat} {w w' : World} {k bw bc : Nat} {cs : List Value} (h : Bs w k bw bc cs) (g : Kp B k w w') : Bs w' k bw bc cs := ⟨g.at h.hw h.nw (by decide), g.at h.hc h.nc (by decide), h.nw, h.nc⟩
theorem Bs.on {w w' : World} {k bw bc : Nat} {cs : List Value} (h : Bs w k bw bc cs) (b : Below w.heap.size w w') : Bs w' k bw bc cs := h.kp (B := 0) (Kp.of b (Nat.zero_le _))
theorem Bs.w {w : World} {k bw bc : Nat} {cs : List Value} (h : Bs w k bw bc cs) : w.cell? ⟨bw, 0, none⟩ = some (.pointer (some ⟨k, 0, none⟩)) := by rw [cell_of h.hw]; rfl
theorem Bs.c {w : World} {k bw bc : Nat} {cs : List Value} (h : Bs w k bw bc cs) (i : Nat) {v : Value} (hv : cs[i]? = some v) : w.cell? ⟨bc, i, none⟩ = some v := by rw [cell_of h.hc]; simpa using hv
set_option maxHeartbeats 4000000 in
set_option maxRecDepth 100000 in
theorem brace_tiers {w0 w : World} {k : Nat} {l X : List UInt8} (head : ByteArray) (bw bc : Nat) (cs : List Value) (h : Ow w0 w k l 1) (bs : Bs w k bw bc cs) (hh : head.size ≤ 1000000) (hX : X.length ≤ 10000000) (hl : l.length + 40000000 ≤ 140737488355328)
    (cC : ∀ W L, Ow w0 W k L 2 → Bs W k bw bc cs → L.length + 20000000 ≤ 140737488355328 → Calls Tryz.prog 53 #[.pointer (some ⟨bw, 0, none⟩), .pointer (some ⟨bc, 0, none⟩)] W fun e w' => e = .returned (.tuple #[]) ∧ Ow w0 w' k (L ++ X) 2 ∧ Kp w0.heap.size k W w') :
    Calls Tryz.prog 49 #[.pointer (some ⟨k, 0, none⟩), .string head, .func (.func 53) #[] #[.pointer (some ⟨bw, 0, none⟩), .pointer (some ⟨bc, 0, none⟩)]] w fun e w' => e = .returned (.tuple #[]) ∧ Ow w0 w' k (l ++ (ln 1 (head.data.toList ++ [32, 123]) ++ X ++ ln 1 [125])) 1 ∧ Kp w0.heap.size k w w' := by
  have zh : (head ++ (⟨#[32, 123]⟩ : ByteArray)).size = head.size + 2 := by rw [ByteArray.size_append]; rfl
  have s1 : ¬ (9223372036854775807 < head.size + 2) := by omega
  have cL := line_any (head ++ (⟨#[32, 123]⟩ : ByteArray)) h.wr (by decide) (by rw [zh]; omega)
  rw [show (head ++ (⟨#[32, 123]⟩ : ByteArray)).data.toList = head.data.toList ++ [32, 123] by simp] at cL
  have H := hid h
  have HB := hid bs
  have CC := hid cC
  have hx1 : (ln 1 (head.data.toList ++ [32, 123])).length ≤ 2000000 := by
    unfold ln
    simp only [List.length_append, List.length_replicate, List.length_cons, List.length_nil, size_list]
    omega
  have HX1 := hid hx1
  clear h bs cC zh hx1
  go_enter Tryz.func49, Tryz.ntmps49
  go_wp2_with fail
  refine cL.mono ?_
  rintro e w1 ⟨rfl, q, kp⟩
  have O1 := hid (H.out.put q kp)
  have K1 := hid kp
  have B1 := hid (HB.out.kp kp)
  have D2 := O1.out.wr.deep 2
  have g2 : w1.cell? ⟨k, 2, none⟩ = some (.int .i64 1) := O1.out.wr.cell2
  have g3 : w1.frozen? ⟨k, 2, none⟩ = false := O1.out.wr.free2
  obtain ⟨w2, hw2⟩ : ∃ W, W = w1.setCell ⟨k, 2, none⟩ (.int .i64 2) := ⟨_, rfl⟩
  have O2 : Hid (Ow w0 w2 k (l ++ ln 1 (head.data.toList ++ [32, 123])) 2) := hid (by rw [hw2]; exact O1.out.put D2.1 D2.2)
  have K2 : Hid (Kp w0.heap.size k w1 w2) := hid (by rw [hw2]; exact D2.2)
  have B2 := hid (B1.out.kp K2.out)
  have HW2 := hid hw2
  clear q kp cL D2 hw2
  go_upto_region 2 with fail
  rw [← HW2.out]
  clear HW2 g2 g3
  go_wp2_with fail
  refine (CC.out w2 _ O2.out B2.out (by rw [List.length_append]; have := HX1.out; omega)).mono ?_
  rintro e w3 ⟨rfl, q, kp⟩
  have O3 := hid q
  have K3 := hid (K2.out.trans kp)
  have D4 := O3.out.wr.deep 1
  have g2 : w3.cell? ⟨k, 2, none⟩ = some (.int .i64 2) := O3.out.wr.cell2
  have g3 : w3.frozen? ⟨k, 2, none⟩ = false := O3.out.wr.free2
  obtain ⟨w4, hw4⟩ : ∃ W, W = w3.setCell ⟨k, 2, none⟩ (.int .i64 1) := ⟨_, rfl⟩
  have O4 : Hid (Ow w0 w4 k (l ++ ln 1 (head.data.toList ++ [32, 123]) ++ X) 1) := hid (by rw [hw4]; exact O3.out.put D4.1 D4.2)
  have K4 : Hid (Kp w0.heap.size k w3 w4) := hid (by rw [hw4]; exact D4.2)
  have HW4 := hid hw4
  clear q kp D4 hw4 CC
  go_upto_region 4 with fail
  rw [← HW4.out]
  clear HW4 g2 g3
  have cE := line_any (⟨#[125]⟩ : ByteArray) O4.out.wr (by decide) (by show _ + 1 + 200 ≤ _; rw [List.length_append, List.length_append]; have := HX1.out; omega)
  go_wp2_with fail
  refine cE.mono ?_
  rintro e w5 ⟨rfl, q, kp⟩
  have O5 := hid (O4.out.put q kp)
  have K5 := hid (K1.out.trans (K3.out.trans (K4.out.trans kp)))
  clear q kp cE
  go_wp2
  go_end0
  exact ⟨rfl, by simpa using O5.out, K5.out⟩
set_option maxHeartbeats 4000000 in
set_option maxRecDepth 100000 in
theorem brace_charge {w0 w : World} {k : Nat} {l X : List UInt8} (head : ByteArray) (bw bc : Nat) (cs : List Value) (h : Ow w0 w k l 0) (bs : Bs w k bw bc cs) (hh : head.size ≤ 1000000) (hX : X.length ≤ 10000000) (hl : l.length + 200000000 ≤ 140737488355328)
    (cC : ∀ W L, Ow w0 W k L 1 → Bs W k bw bc cs → L.length + 100000000 ≤ 140737488355328 → Calls Tryz.prog 50 #[.pointer (some ⟨bc, 0, none⟩), .pointer (some ⟨bw, 0, none⟩)] W fun e w' => e = .returned (.tuple #[]) ∧ Ow w0 w' k (L ++ X) 1 ∧ Kp w0.heap.size k W w') :
    Calls Tryz.prog 49 #[.pointer (some ⟨k, 0, none⟩), .string head, .func (.func 50) #[] #[.pointer (some ⟨bc, 0, none⟩), .pointer (some ⟨bw, 0, none⟩)]] w fun e w' => e = .returned (.tuple #[]) ∧ Ow w0 w' k (l ++ (ln 0 (head.data.toList ++ [32, 123]) ++ X ++ ln 0 [125])) 0 ∧ Kp w0.heap.size k w w' := by
  have zh : (head ++ (⟨#[32, 123]⟩ : ByteArray)).size = head.size + 2 := by rw [ByteArray.size_append]; rfl
  have s1 : ¬ (9223372036854775807 < head.size + 2) := by omega
  have cL := line_any (head ++ (⟨#[32, 123]⟩ : ByteArray)) h.wr (by decide) (by rw [zh]; omega)
  rw [show (head ++ (⟨#[32, 123]⟩ : ByteArray)).data.toList = head.data.toList ++ [32, 123] by simp] at cL
  have H := hid h
  have HB := hid bs
  have CC := hid cC
  have hx1 : (ln 0 (head.data.toList ++ [32, 123])).length ≤ 2000000 := by
    unfold ln
    simp only [List.length_append, List.length_replicate, List.length_cons, List.length_nil, size_list]
    omega
  have HX1 := hid hx1
  clear h bs cC zh hx1
  go_enter Tryz.func49, Tryz.ntmps49
  go_wp2_with fail
  refine cL.mono ?_
  rintro e w1 ⟨rfl, q, kp⟩
  have O1 := hid (H.out.put q kp)
  have K1 := hid kp
  have B1 := hid (HB.out.kp kp)
  have D2 := O1.out.wr.deep 1
  have g2 : w1.cell? ⟨k, 2, none⟩ = some (.int .i64 0) := O1.out.wr.cell2
  have g3 : w1.frozen? ⟨k, 2, none⟩ = false := O1.out.wr.free2
  obtain ⟨w2, hw2⟩ : ∃ W, W = w1.setCell ⟨k, 2, none⟩ (.int .i64 1) := ⟨_, rfl⟩
  have O2 : Hid (Ow w0 w2 k (l ++ ln 0 (head.data.toList ++ [32, 123])) 1) := hid (by rw [hw2]; exact O1.out.put D2.1 D2.2)
  have K2 : Hid (Kp w0.heap.size k w1 w2) := hid (by rw [hw2]; exact D2.2)
  have B2 := hid (B1.out.kp K2.out)
  have HW2 := hid hw2
  clear q kp cL D2 hw2
  go_upto_region 2 with fail
  rw [← HW2.out]
  clear HW2 g2 g3
  go_wp2_with fail
  refine (CC.out w2 _ O2.out B2.out (by rw [List.length_append]; have := HX1.out; omega)).mono ?_
  rintro e w3 ⟨rfl, q, kp⟩
  have O3 := hid q
  have K3 := hid (K2.out.trans kp)
  have D4 := O3.out.wr.deep 0
  have g2 : w3.cell? ⟨k, 2, none⟩ = some (.int .i64 1) := O3.out.wr.cell2
  have g3 : w3.frozen? ⟨k, 2, none⟩ = false := O3.out.wr.free2
  obtain ⟨w4, hw4⟩ : ∃ W, W = w3.setCell ⟨k, 2, none⟩ (.int .i64 0) := ⟨_, rfl⟩
  have O4 : Hid (Ow w0 w4 k (l ++ ln 0 (head.data.toList ++ [32, 123]) ++ X) 0) := hid (by rw [hw4]; exact O3.out.put D4.1 D4.2)
  have K4 : Hid (Kp w0.heap.size k w3 w4) := hid (by rw [hw4]; exact D4.2)
  have HW4 := hid hw4
  clear q kp D4 hw4 CC
  go_upto_region 4 with fail
  rw [← HW4.out]
  clear HW4 g2 g3
  have cE := line_any (⟨#[125]⟩ : ByteArray) O4.out.wr (by decide) (by show _ + 1 + 200 ≤ _; rw [List.length_append, List.length_append]; have := HX1.out; omega)
  go_wp2_with fail
  refine cE.mono ?_
  rintro e w5 ⟨rfl, q, kp⟩
  have O5 := hid (O4.out.put q kp)
  have K5 := hid (K1.out.trans (K3.out.trans (K4.out.trans kp)))
  clear q kp cE
  go_wp2
  go_end0
  exact ⟨rfl, by simpa using O5.out, K5.out⟩
section
variable {K : World → Prop} (T : Tx K)
include T
set_option maxHeartbeats 4000000 in
set_option maxRecDepth 100000 in
theorem within_tiers {w0 w : World} {k : Nat} {l : List UInt8} (c : Charge) (ta : Option Addr) (tc : Nat) (aa : Option Addr) (ac : Nat) (bw bc : Nat) (hc : ChargeLies w0 (chargeC c ta tc aa ac) c ta tc aa ac) (sc : ShT c) (h : Ow w0 w k l 2) (bs : Bs w k bw bc (chargeC c ta tc aa ac)) (hK : K w0) (hl : l.length + 20000000 ≤ 140737488355328) :
    Calls Tryz.prog 53 #[.pointer (some ⟨bw, 0, none⟩), .pointer (some ⟨bc, 0, none⟩)] w fun e w' => e = .returned (.tuple #[]) ∧ Ow w0 w' k (l ++ tiersUp c.tiers c.tiers.length) 2 ∧ Kp w0.heap.size k w w' := by
  have cT := tiers_any T c.tiers ta tc hc.tiers sc.tiers sc.cnt.1 h hK (by omega)
  have c0 := bs.w
  have c1 := bs.c 11 rfl
  clear h bs hK hc sc
  go_enter Tryz.func53, Tryz.ntmps53
  go_wp2_with fail
  refine cT.mono ?_
  rintro e w1 ⟨rfl, q, kp⟩
  have Q := hid q
  have KP := hid kp
  clear q kp cT
  go_wp2
  go_end0
  exact ⟨rfl, Q.out, KP.out⟩
end
end Go.Proofs.YteelbdcgdkpioaaGreatDoor.Sw
