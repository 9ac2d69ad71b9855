/- What package date does: Parse, of every text. -/
import Derived.Test.YteelbdcgdkpioaaGreatDoorJDate4
namespace Go.Proofs.YteelbdcgdkpioaaGreatDoor.Dt
open Go.RowKit Go.Sort P

theorem part_of (s : ByteArray) (i j : Nat) : (s.extract i j).data.toList = (s.data.toList.drop i).take (j - i) := Lib.extract_data s i j
theorem nv_all {l : List UInt8} (h : l.all isD = true) : nv l = (val l : Int) := by unfold nv; rw [h]; rfl
theorem at_ten (s : ByteArray) (i : Nat) (h : i < s.size) (b : UInt8) : s.data.toList.getD i 0 = b ↔ (((s[i]'h).toNat : Int) = (b.toNat : Int)) := by
  have hl : i < s.data.toList.length := by simpa using h
  rw [List.getD_eq_getElem?_getD, List.getElem?_eq_getElem hl, at_byte s i h, Option.getD_some]
  constructor
  · rintro rfl; rfl
  · intro k; exact UInt8.toNat_inj.1 (by omega)
/-- Parse's answer. -/
theorem parse_any (s : ByteArray) (w : World) :
    Calls Tryz.prog 91 #[.string s] w fun e w' => e = (if reads s.data.toList = true then .returned (.tuple #[dv (yearOf s.data.toList) (monthOf s.data.toList) (dayOf s.data.toList), .bool true]) else .returned (.tuple #[dv 0 0 0, .bool false])) ∧ Below w.heap.size w w' := by
  by_cases hs : s.size = 10
  · have hl : s.data.toList.length = 10 := by simpa using hs
    by_cases h4 : ((s[4]'(by omega)).toNat : Int) = 45
    · by_cases h7 : ((s[7]'(by omega)).toNat : Int) = 45
      · have k4 := (at_ten s 4 (by omega) 45).2 h4
        have k7 := (at_ten s 7 (by omega) 45).2 h7
        have c0 := fun W => number_any (s.extract 0 4) W (by simp [hs])
        have c1 := fun W => number_any (s.extract 5 7) W (by simp [hs])
        have c2 := fun W => number_any (s.extract 8 10) W (by simp [hs])
        have e3 : ((s.data.toList.drop 8).take 2) = s.data.toList.drop 8 := List.take_of_length_le (by rw [List.length_drop]; omega)
        simp only [part_of, List.drop_zero, Nat.sub_zero, show 7 - 5 = 2 from rfl, e3] at c0 c1 c2
        have key : ((s.data.toList.take 4).all isD && ((s.data.toList.drop 5).take 2).all isD && (s.data.toList.drop 8).all isD && good (nv (s.data.toList.take 4)) (nv ((s.data.toList.drop 5).take 2)) (nv (s.data.toList.drop 8))) = reads s.data.toList := by
          unfold reads formed yearOf monthOf dayOf
          rw [hl, k4, k7]
          cases d0 : (s.data.toList.take 4).all isD
          · rfl
          · cases d1 : ((s.data.toList.drop 5).take 2).all isD
            · rfl
            · cases d2 : (s.data.toList.drop 8).all isD
              · rfl
              · rw [nv_all d0, nv_all d1, nv_all d2]; rfl
        refine parse_walk s _ _ _ _ _ _ _ _ _ _ w (fun W => parts_yes s W hs h4 h7) c0 c1 c2 (hid fun h => ?_) (hid fun h => ?_)
        · rw [key] at h
          rw [if_neg (by rw [h]; decide)]
        · have h' := h
          rw [key] at h'
          rw [if_pos h']
          simp only [Bool.and_eq_true] at h
          rw [nv_all h.1.1.1, nv_all h.1.1.2, nv_all h.1.2]
          rfl
      · have e : reads s.data.toList = false := by
          have : s.data.toList.getD 7 0 ≠ 45 := fun k => h7 ((at_ten s 7 (by omega) 45).1 k)
          unfold reads formed
          rw [decide_eq_false this]
          simp
        rw [if_neg (by rw [e]; decide)]
        exact parse_bad s w (fun W => parts_seven s W hs h4 h7)
    · have e : reads s.data.toList = false := by
        have : s.data.toList.getD 4 0 ≠ 45 := fun k => h4 ((at_ten s 4 (by omega) 45).1 k)
        unfold reads formed
        rw [decide_eq_false this]
        simp
      rw [if_neg (by rw [e]; decide)]
      exact parse_bad s w (fun W => parts_four s W hs h4)
  · have e : reads s.data.toList = false := by
      have : s.data.toList.length ≠ 10 := by simpa using hs
      unfold reads formed
      rw [decide_eq_false this]
      rfl
    rw [if_neg (by rw [e]; decide)]
    exact parse_bad s w (fun W => parts_len s W hs)
end Go.Proofs.YteelbdcgdkpioaaGreatDoor.Dt
/- What package parse does: words, names, days, numbers. -/
namespace Go.Proofs.YteelbdcgdkpioaaGreatDoor.Pa
open Go.RowKit Go.Sort P Tl

theorem next_any (b tb cap : Nat) (ts : List Tok) (s : St) (l : ByteArray) (hl : Wd l.data.toList) (w : World) (h : Rd w b tb cap ts s) :
    Calls Tryz.prog 87 #[.pointer (some ⟨b, 0, none⟩), .string l] w fun e w' => e = .returned (.bool (tke ts s l.data.toList).1) ∧ Rd w' b tb cap ts (tke ts s l.data.toList).2 ∧ w.grownBy w' (some b) := by
  have H := hid h
  have hb := h.lt
  have c0 := h.c0
  obtain ⟨a0, a1, a2, a3⟩ := h.at
  have ho := on_view h.knd h.ok hl
  obtain ⟨T, hT⟩ : ∃ T : ByteArray, T = ⟨(vk ts s).t.toArray⟩ := ⟨_, rfl⟩
  rw [← hT] at a1
  have hq : (T.toList == l.toList) = onW ts s l.data.toList := by rw [ho, Lib.toList_data, Lib.toList_data, hT]
  have hc : 1 ≤ ts.length - vw ts s := by have := vw_lt h.ok; omega
  clear ho hT a0 a2 a3
  cases ho : onW ts s l.data.toList
  · have e : tke ts s l.data.toList = (false, s) := by unfold tke; rw [ho]; rfl
    rw [e]
    rw [ho] at hq
    clear e ho h hl
    go_enter Tryz.func87, Tryz.ntmps87
    go_wp2
    go_ret
    exact ⟨rfl, H.out, grown_refl _ _⟩
  · have e : tke ts s l.data.toList = (true, s.next) := by unfold tke; rw [ho]; rfl
    rw [e]
    rw [ho] at hq
    have cP := pass_any b tb cap ts s w h (on_err ho) (h.ok.next (onW_k ho))
    clear e ho h hl
    go_enter Tryz.func87, Tryz.ntmps87
    go_wp2_with (go_at_call 89; refine cP.mono ?_; rintro e w1 ⟨rfl, q1, g1⟩; have Q1 := hid q1; clear q1)
    go_ret
    exact ⟨rfl, Q1.out, g1⟩
theorem need_any (b tb cap : Nat) (ts : List Tok) (s : St) (l : ByteArray) (hl : Wd l.data.toList) (w : World) (h : Rd w b tb cap ts s) :
    Calls Tryz.prog 62 #[.pointer (some ⟨b, 0, none⟩), .string l] w fun e w' => e = .returned (.tuple #[]) ∧ Rd w' b tb cap ts (wnt ts s l.data.toList) ∧ w.grownBy w' (some b) := by
  have cT := next_any b tb cap ts s l hl w h
  cases ho : onW ts s l.data.toList
  · have e : tke ts s l.data.toList = (false, s) := by unfold tke; rw [ho]; rfl
    have e2 : wnt ts s l.data.toList = wrg ts s 4 := by unfold wnt; rw [ho]; rfl
    rw [e2]
    rw [e] at cT
    clear e e2 ho h hl
    go_enter Tryz.func62, Tryz.ntmps62
    go_wp2_with (first
      | (go_at_call 87; refine cT.mono ?_; rintro e w1 ⟨rfl, q1, g1⟩; have Q1 := hid q1; clear q1)
      | (go_at_call 88; refine (refuse_any _ _ _ _ _ 4 (by decide) _ Q1.out).mono ?_; rintro e w2 ⟨rfl, q2, g2⟩; have Q2 := hid q2; clear q2))
    go_end0
    exact ⟨rfl, Q2.out, grown_trans g1 g2⟩
  · have e : tke ts s l.data.toList = (true, s.next) := by unfold tke; rw [ho]; rfl
    have e2 : wnt ts s l.data.toList = s.next := by unfold wnt; rw [ho]; rfl
    rw [e2]
    rw [e] at cT
    clear e e2 ho h hl
    go_enter Tryz.func62, Tryz.ntmps62
    go_wp2_with (go_at_call 87; refine cT.mono ?_; rintro e w1 ⟨rfl, q1, g1⟩; have Q1 := hid q1; clear q1)
    go_end0
    exact ⟨rfl, Q1.out, g1⟩
theorem clone_any (x : ByteArray) (w : World) (hx : x.size ≤ 1000000) : Calls Tryz.prog 90 #[.string x] w fun e w' => e = .returned (.string x) ∧ Below w.heap.size w w' := by
  have cC := Any.stringslite_Clone Tryz.laysM316 x w (by omega)
  clear hx
  go_enter Tryz.func90, Tryz.ntmps90
  go_wp2_with (go_at_call 119; refine cC.mono ?_; rintro e w1 ⟨rfl, b1⟩)
  go_ret
  exact ⟨rfl, b1⟩
/-- A struct's block. -/
structure Bx (W : World) (b : Nat) (cs : List Value) : Prop where
  lt : b < W.heap.size
  cell : ∀ j u, cs[j]? = some u → W.cell? ⟨b, j, none⟩ = some u
  free : ∀ j, W.frozen? ⟨b, j, none⟩ = false
theorem Bx.new (w : World) (cs : List Value) (t : TypeId) : Bx (w.alloc (.cells cs.toArray t)) w.heap.size cs := by
  refine ⟨by simp, fun j u h => ?_, fun j => ?_⟩
  · rw [World.cell?_alloc_new]
    simpa using h
  · simp
theorem Bx.on {W W' : World} {b : Nat} {cs : List Value} (h : Bx W b cs) (hb : Below W.heap.size W W') : Bx W' b cs :=
  ⟨Nat.lt_of_lt_of_le h.lt hb.size, fun j u k => by rw [hb.cell h.lt]; exact h.cell j u k, fun j => by rw [hb.frozen h.lt]; exact h.free j⟩
theorem Bx.grown {W W' : World} {b : Nat} {cs : List Value} (h : Bx W b cs) {row : Option Nat} (hg : W.grownBy W' row) (hne : some b ≠ row) : Bx W' b cs :=
  ⟨Nat.lt_of_lt_of_le h.lt hg.size, fun j u k => by rw [World.cell?_of_block (w := W) (hg.block b h.lt hne)]; exact h.cell j u k, fun j => by rw [World.frozen?_of_block (w := W) (hg.block b h.lt hne)]; exact h.free j⟩
theorem Bx.set {W : World} {b : Nat} {cs : List Value} (h : Bx W b cs) (i : Nat) (u : Value) : Bx (W.setCell ⟨b, i, none⟩ u) b (cs.set i u) := by
  refine ⟨by simpa using h.lt, fun j v k => ?_, fun j => ?_⟩
  · rw [List.getElem?_set] at k
    split at k
    · rename_i e
      subst e
      split at k
      · rename_i hi
        obtain rfl : u = v := by simpa using k
        have := h.cell i (cs[i]'hi) (List.getElem?_eq_getElem hi)
        exact World.cell?_setCell_same (h := this) ..
      · cases k
    · rename_i e
      rw [World.cell?_setCell_other (h := show (⟨b, i, none⟩ : Addr) ≠ ⟨b, j, none⟩ by simp only [ne_eq, Addr.mk.injEq, and_true, true_and]; exact e) ..]
      exact h.cell j v k
  · simpa using h.free j
theorem Bx.other {W : World} {b : Nat} {cs : List Value} (h : Bx W b cs) {p : Addr} (hp : b ≠ p.block) (u : Value) : Bx (W.setCell p u) b cs :=
  ⟨by simpa using h.lt, fun j v k => by rw [World.cell?_of_block (w := W) (Below.heap_setCell _ _ _ _ hp)]; exact h.cell j v k, fun j => by rw [World.frozen?_of_block (w := W) (Below.heap_setCell _ _ _ _ hp)]; exact h.free j⟩
/-- Cells of a block, told apart from the world. -/
theorem loaded (w : World) (vs : List Value) (t : TypeId) : ∃ w1, (w.alloc (.cells vs.toArray t)) = w1 ∧ Below w.heap.size w w1 ∧ Bx w1 w.heap.size vs :=
  ⟨_, rfl, (Below.refl _ _).alloc (Nat.le_refl _) _, Bx.new _ _ _⟩
theorem name_any (b tb cap : Nat) (ts : List Tok) (s : St) (w : World) (h : Rd w b tb cap ts s) :
    Calls Tryz.prog 63 #[.pointer (some ⟨b, 0, none⟩)] w fun e w' => e = .returned (.string ⟨(tkn ts s 1).1.toArray⟩) ∧ Rd w' b tb cap ts (tkn ts s 1).2 ∧ w.grownBy w' (some b) := by
  have H := hid h
  have hb := h.lt
  have c0 := h.c0
  obtain ⟨a0, a1, a2, a3⟩ := h.at
  have ho := is_view h.knd h.ok (k := 1) (by decide)
  obtain ⟨T, hT⟩ : ∃ T : ByteArray, T = ⟨(vk ts s).t.toArray⟩ := ⟨_, rfl⟩
  obtain ⟨K, hK⟩ : ∃ K : Int, K = ((vk ts s).k : Int) := ⟨_, rfl⟩
  obtain ⟨L, hL⟩ : ∃ L : Int, L = ((vk ts s).ln : Int) := ⟨_, rfl⟩
  obtain ⟨C, hC⟩ : ∃ C : Int, C = ((vk ts s).cl : Int) := ⟨_, rfl⟩
  rw [← hT] at a1
  rw [← hK] at a0
  rw [← hL] at a2
  rw [← hC] at a3
  have hs : T.size ≤ 1000000 := by rw [hT, ba_size]; exact h.str_at
  have hq : isTk ts s 1 = (K == 1) := by
    rw [ho, Bool.eq_iff_iff, decide_eq_true_eq, beq_iff_eq]; omega
  have hc : 1 ≤ ts.length - vw ts s := by have := vw_lt h.ok; omega
  obtain ⟨w1, hw1, b1, B1⟩ := loaded w [.int .i64 K, .string T, .int .i64 L, .int .i64 C] 114
  have HW : Hid (w.alloc (.cells #[.int .i64 K, .string T, .int .i64 L, .int .i64 C] 114) = w1) := hid hw1
  have R1 := h.on b1
  have HB1 := hid B1
  have HR1 := hid R1
  have nb : some w.heap.size ≠ some b := fun e => by have := Option.some.inj e; omega
  have cC := fun W => clone_any T W hs
  clear ho hK hL hC
  cases ho : isTk ts s 1
  · have e : tkn ts s 1 = ([], wrg ts s 4) := by unfold tkn; rw [ho]; rfl
    rw [e]
    rw [ho] at hq
    have n1 : (K != 1) = true := by rw [bne, ← hq]; rfl
    clear hq
    have cR := refuse_any b tb cap ts s 4 (by decide) w1 R1
    have d0 := B1.cell 0 _ rfl
    have G1 := hid b1
    clear e ho h hw1 b1 B1 R1 hT
    go_enter Tryz.func63, Tryz.ntmps63
    go_upto_region 2 with fail
    rw [HW.out]
    clear a0 a1 a2 a3 c0
    go_wp2_with (go_at_call 88; refine cR.mono ?_; rintro e w2 ⟨rfl, q2, g2⟩; have Q2 := hid q2; clear q2)
    go_ret
    exact ⟨rfl, Q2.out, grown_trans (grown_below G1.out) g2⟩
  · have e : tkn ts s 1 = ((tk ts s).t, s.next) := by unfold tkn; rw [ho]; rfl
    rw [e]
    rw [ho] at hq
    have n1 : (K != 1) = false := by rw [bne, ← hq]; rfl
    clear hq
    have cP := pass_any b tb cap ts s w1 R1 (is_err ho) (h.ok.next (isTk_k ho (by decide)))
    have hTk : T = ⟨(tk ts s).t.toArray⟩ := by rw [hT, vk_ok (is_err ho)]
    have d0 := B1.cell 0 _ rfl
    have G1 := hid b1
    have HT := hid hTk
    clear e ho h hw1 b1 B1 R1 hT hTk
    go_enter Tryz.func63, Tryz.ntmps63
    go_upto_region 2 with fail
    rw [HW.out]
    clear a0 a1 a2 a3 c0
    go_wp2_with (first
      | (go_at_call 89; refine cP.mono ?_; rintro e w2 ⟨rfl, q2, g2⟩; have e1 := (HB1.out.grown g2 nb).cell 1 _ rfl; have lb := (HB1.out.grown g2 nb).lt; have Q2 := hid q2; clear q2)
      | (go_at_call 90; refine (cC _).mono ?_; rintro e w3 ⟨rfl, b3⟩))
    go_ret
    exact ⟨ret_s HT.out, Q2.out.on b3, grown_trans (grown_below G1.out) (grown_trans g2 (grown_below b3))⟩
end Go.Proofs.YteelbdcgdkpioaaGreatDoor.Pa
/- What package parse does: days, numbers, rates. -/
namespace Go.Proofs.YteelbdcgdkpioaaGreatDoor.Pa
open Go.RowKit Go.Sort P Tl

def dayV (d : Mm.Day) : Value := .agg #[.int .i64 d.y, .int .i64 d.m, .int .i64 d.d]
def dayC (d : Mm.Day) : List Value := [.int .i64 d.y, .int .i64 d.m, .int .i64 d.d]
theorem date_any (s : ByteArray) (w : World) : Calls Tryz.prog 91 #[.string s] w fun e w' => e = .returned (.tuple #[dayV (dayOf' s.data.toList), .bool (reads s.data.toList)]) ∧ Below w.heap.size w w' := by
  refine (Dt.parse_any s w).mono ?_
  rintro e w' ⟨rfl, b⟩
  refine ⟨?_, b⟩
  unfold dayV dayOf' dv
  cases reads s.data.toList <;> rfl
theorem day_any (b tb cap : Nat) (ts : List Tok) (s : St) (w : World) (h : Rd w b tb cap ts s) :
    Calls Tryz.prog 64 #[.pointer (some ⟨b, 0, none⟩)] w fun e w' => e = .returned (dayV (dayS ts s).1) ∧ Rd w' b tb cap ts (dayS ts s).2 ∧ w.grownBy w' (some b) := by
  obtain ⟨w0, hw0, b0, B0⟩ := loaded w [.int .i64 0, .int .i64 0, .int .i64 0] 24
  have HW : Hid (w.alloc (.cells #[.int .i64 0, .int .i64 0, .int .i64 0] 24) = w0) := hid hw0
  have R0 := h.on b0
  have hb := R0.lt
  have hbw := h.lt
  have c0 := R0.c0
  obtain ⟨a0, a1, a2, a3⟩ := R0.at
  obtain ⟨T, hT⟩ : ∃ T : ByteArray, T = ⟨(vk ts s).t.toArray⟩ := ⟨_, rfl⟩
  rw [← hT] at a1
  have hTl : T.data.toList = (vk ts s).t := by rw [hT]
  have hc : 1 ≤ ts.length - vw ts s := by have := vw_lt h.ok; omega
  have cD := date_any T w0
  rw [hTl] at cD
  have nb : some w.heap.size ≠ some b := fun e => by have := Option.some.inj e; omega
  have HB0 := hid B0
  have HR0 := hid R0
  have G0 := hid b0
  have HH := hid h
  unfold dayV at cD ⊢
  clear hT hTl a0 a2 a3 hw0 b0 B0 R0
  cases hr : reads (vk ts s).t
  · have e := day_no h.knd h.ok hr
    rw [e]
    rw [hr, show dayOf' (vk ts s).t = ⟨0, 0, 0⟩ by unfold dayOf'; rw [hr]; rfl] at cD
    clear e hr h
    go_enter Tryz.func64, Tryz.ntmps64
    go_upto_region 1 with fail
    rw [HW.out]
    go_wp2_with (first
      | (go_at_call 91; refine cD.mono ?_; rintro e w1 ⟨rfl, b1⟩; have Q1 := hid (HR0.out.on b1); have Z1 := HB0.out.on b1; have HZ1 := hid Z1; have G1 := hid (grown_trans (grown_below (row := some b) G0.out) (grown_below b1)); clear b1 Z1)
      | (go_at_call 88; refine (refuse_any b tb cap ts s 4 (by decide) _ (Q1.out.on ((Below.refl _ _).alloc (Nat.le_refl _) _))).mono ?_; rintro e w2 ⟨rfl, q2, g2⟩
         have Z2 := (HZ1.out.on ((Below.refl _ _).alloc (Nat.le_refl _) _)).grown g2 nb
         have z0 := Z2.cell 0 _ rfl; have z1 := Z2.cell 1 _ rfl; have z2 := Z2.cell 2 _ rfl; have f0 := Z2.free 0; have f1 := Z2.free 1; have f2 := Z2.free 2; have Q2 := hid q2; have G2 := hid (grown_trans G1.out (grown_trans (grown_below ((Below.refl _ _).alloc (Nat.le_refl _) _)) g2)); have lz := Z2.lt; clear q2 g2 Z2))
    exact bodyPost_ret (v := .agg #[.int .i64 0, .int .i64 0, .int .i64 0]) (by simp [results, Tryz.results64, go_sem, *]) rfl ⟨rfl, ((Q2.out.far' hbw (Nat.le_refl _) _ _).far' hbw (Nat.le_refl _) _ _).far' hbw (Nat.le_refl _) _ _, grown_put (grown_put (grown_put G2.out (Nat.le_refl _) _ _) (Nat.le_refl _) _ _) (Nat.le_refl _) _ _⟩
  · have e := day_yes h.knd h.ok hr
    have hi := (day_view h.knd h.ok).trans hr
    have HE := hid (is_err hi)
    have HO := hid (h.ok.next (isTk_k hi (by decide)))
    rw [e]
    rw [hr, show dayOf' (vk ts s).t = ⟨yearOf (vk ts s).t, monthOf (vk ts s).t, dayOf (vk ts s).t⟩ by unfold dayOf'; rw [hr]; rfl] at cD
    simp only at cD ⊢
    generalize yearOf (vk ts s).t = Y at *
    generalize monthOf (vk ts s).t = M at *
    generalize dayOf (vk ts s).t = D at *
    clear e hr h hi
    go_enter Tryz.func64, Tryz.ntmps64
    go_upto_region 1 with fail
    rw [HW.out]
    go_wp2_with (first
      | (go_at_call 91; refine cD.mono ?_; rintro e w1 ⟨rfl, b1⟩; have Q1 := hid (HR0.out.on b1); have Z1 := HB0.out.on b1; have HZ1 := hid Z1; have G1 := hid (grown_trans (grown_below (row := some b) G0.out) (grown_below b1)); clear b1 Z1)
      | (go_at_call 89; refine (pass_any b tb cap ts s _ (Q1.out.on ((Below.refl _ _).alloc (Nat.le_refl _) _)) HE.out HO.out).mono ?_; rintro e w2 ⟨rfl, q2, g2⟩
         have Z2 := (HZ1.out.on ((Below.refl _ _).alloc (Nat.le_refl _) _)).grown g2 nb
         have X2 := (Bx.new w1 [.int .i64 Y, .int .i64 M, .int .i64 D] 24).grown g2 (fun e => by have := Option.some.inj e; have := Q1.out.lt; omega)
         have x0 := X2.cell 0 _ rfl; have x1 := X2.cell 1 _ rfl; have x2 := X2.cell 2 _ rfl
         have z0 := Z2.cell 0 _ rfl; have z1 := Z2.cell 1 _ rfl; have z2 := Z2.cell 2 _ rfl; have f0 := Z2.free 0; have f1 := Z2.free 1; have f2 := Z2.free 2; have Q2 := hid q2; have G2 := hid (grown_trans G1.out (grown_trans (grown_below ((Below.refl _ _).alloc (Nat.le_refl _) _)) g2)); have lz := Z2.lt; have lx := X2.lt; clear q2 g2 Z2 X2))
    exact bodyPost_ret (v := .agg #[.int .i64 Y, .int .i64 M, .int .i64 D]) (by simp [results, Tryz.results64, go_sem, *]) rfl ⟨rfl, ((Q2.out.far' hbw (Nat.le_refl _) _ _).far' hbw (Nat.le_refl _) _ _).far' hbw (Nat.le_refl _) _ _, grown_put (grown_put (grown_put G2.out (Nat.le_refl _) _ _) (Nat.le_refl _) _ _) (Nat.le_refl _) _ _⟩
end Go.Proofs.YteelbdcgdkpioaaGreatDoor.Pa
/- What package parse does: numbers, rates, kinds. -/
namespace Go.Proofs.YteelbdcgdkpioaaGreatDoor.Pa
open Go.RowKit Go.Sort P Tl

theorem number_any (b tb cap : Nat) (ts : List Tok) (s : St) (places most : Int) (w : World) (h : Rd w b tb cap ts s) :
    Calls Tryz.prog 148 #[.pointer (some ⟨b, 0, none⟩), .int .i64 places, .int .i64 most] w fun e w' => e = .returned (.int .i64 (numS ts s places most).1) ∧ Rd w' b tb cap ts (numS ts s places most).2 ∧ w.grownBy w' (some b) := by
  have H := hid h
  have hb := h.lt
  have c0 := h.c0
  obtain ⟨a0, a1, a2, a3⟩ := h.at
  obtain ⟨T, hT⟩ : ∃ T : ByteArray, T = ⟨(vk ts s).t.toArray⟩ := ⟨_, rfl⟩
  rw [← hT] at a1
  have hTl : T.data.toList = (vk ts s).t := by rw [hT]
  have hs : T.size ≤ 1000000 := by rw [hT, ba_size]; exact h.str_at
  have hc : 1 ≤ ts.length - vw ts s := by have := vw_lt h.ok; omega
  have cD := Dc.parse_mx T places most w h.ky.1 hs
  rw [hTl] at cD
  rcases pw_cases (vk ts s).t places most with hw | hw | hw
  · obtain ⟨hi, e⟩ := num_yes h.knd h.ok hw
    have HE := hid (is_err hi)
    have HO := hid (h.ok.next (isTk_k hi (by decide)))
    rw [e]
    rw [hw] at cD
    simp only at cD ⊢
    generalize pN (vk ts s).t places most = N at *
    clear hT hTl a0 a2 a3 e hi hw hs h
    go_enter Tryz.func148, Tryz.ntmps148
    go_wp2_with (first
      | (go_at_call 159; refine cD.mono ?_; rintro e w1 ⟨rfl, b1⟩; have Q1 := hid (H.out.on b1); have G1 := hid (grown_below (row := some b) b1); clear b1)
      | (go_at_call 89; refine (pass_any b tb cap ts s _ Q1.out HE.out HO.out).mono ?_; rintro e w2 ⟨rfl, q2, g2⟩; have Q2 := hid q2; have G2 := hid g2; clear q2 g2))
    go_ret
    exact ⟨rfl, Q2.out, grown_trans G1.out G2.out⟩
  · have e := num_no (ts := ts) (s := s) hw
    obtain ⟨X, hX⟩ : ∃ X, X = numS ts s places most := ⟨_, rfl⟩
    have hX1 : X.1 = pN (vk ts s).t places most := by rw [hX]; rcases e with e | ⟨_, e⟩ <;> rw [e]
    have KX : Hid (∀ W, Rd W b tb cap ts (wrg ts s 4) → Rd W b tb cap ts X.2) := hid fun W k => by
      rw [hX]
      rcases e with e | ⟨hi, e⟩
      · rw [e]; exact k
      · rw [e]; exact k.behind (wrg_err (by decide)) (ok_wrg_next (h.ok.next (isTk_k hi (by decide))))
    rw [← hX, hX1]
    rw [hw] at cD
    generalize pN (vk ts s).t places most = N at *
    clear hT hTl a0 a2 a3 e hw hs h hX1 hX
    go_enter Tryz.func148, Tryz.ntmps148
    go_wp2_with (first
      | (go_at_call 159; refine cD.mono ?_; rintro e w1 ⟨rfl, b1⟩; have Q1 := hid (H.out.on b1); have G1 := hid (grown_below (row := some b) b1); clear b1)
      | (go_at_call 88; refine (refuse_any b tb cap ts s 4 (by decide) _ Q1.out).mono ?_; rintro e w2 ⟨rfl, q2, g2⟩; have Q2 := hid q2; have G2 := hid g2; clear q2 g2))
    go_ret
    exact ⟨rfl, KX.out _ Q2.out, grown_trans G1.out G2.out⟩
  · obtain ⟨hi, e⟩ := num_great h.knd h.ok hw
    have HO := hid (h.ok.next (isTk_k hi (by decide)))
    rw [e]
    rw [hw] at cD
    simp only at cD ⊢
    generalize pN (vk ts s).t places most = N at *
    clear hT hTl a0 a2 a3 e hi hw hs h
    go_enter Tryz.func148, Tryz.ntmps148
    go_wp2_with (first
      | (go_at_call 159; refine cD.mono ?_; rintro e w1 ⟨rfl, b1⟩; have Q1 := hid (H.out.on b1); have G1 := hid (grown_below (row := some b) b1); clear b1)
      | (go_at_call 88; refine (refuse_any b tb cap ts s 6 (by decide) _ Q1.out).mono ?_; rintro e w2 ⟨rfl, q2, g2⟩; have Q2 := hid q2; have G2 := hid g2; clear q2 g2))
    go_ret
    exact ⟨rfl, Q2.out.behind (wrg_err (by decide)) (ok_wrg_next HO.out), grown_trans G1.out G2.out⟩
theorem whole_any (b tb cap : Nat) (ts : List Tok) (s : St) (most : Int) (w : World) (h : Rd w b tb cap ts s) :
    Calls Tryz.prog 122 #[.pointer (some ⟨b, 0, none⟩), .int .i64 most] w fun e w' => e = .returned (.int .i64 (numS ts s 0 most).1) ∧ Rd w' b tb cap ts (numS ts s 0 most).2 ∧ w.grownBy w' (some b) := by
  have cN := number_any b tb cap ts s 0 most w h
  generalize numS ts s 0 most = X at *
  clear h
  go_enter Tryz.func122, Tryz.ntmps122
  go_wp2_with (go_at_call 148; refine cN.mono ?_; rintro e w1 ⟨rfl, q1, g1⟩; have Q1 := hid q1; clear q1)
  go_ret
  exact ⟨rfl, Q1.out, g1⟩
/-- A rate, up to the end of its tier. -/
def rateS (ts : List Tok) (s : St) : Int × St := ((numS ts (wnt ts s wRate) 6 1000000000000).1, wnt ts (numS ts (wnt ts s wRate) 6 1000000000000).2 sSemi)
theorem rate_any (b tb cap : Nat) (ts : List Tok) (s : St) (w : World) (h : Rd w b tb cap ts s) :
    Calls Tryz.prog 149 #[.pointer (some ⟨b, 0, none⟩)] w fun e w' => e = .returned (.int .i64 (rateS ts s).1) ∧ Rd w' b tb cap ts (rateS ts s).2 ∧ w.grownBy w' (some b) := by
  obtain ⟨s1, h1⟩ : ∃ s1, s1 = wnt ts s wRate := ⟨_, rfl⟩
  obtain ⟨n, h2⟩ : ∃ n, n = numS ts s1 6 1000000000000 := ⟨_, rfl⟩
  obtain ⟨s3, h3⟩ : ∃ s3, s3 = wnt ts n.2 sSemi := ⟨_, rfl⟩
  have e : rateS ts s = (n.1, s3) := by rw [h3, h2, h1]; rfl
  rw [e]
  have c1 := need_any b tb cap ts s ⟨#[114, 97, 116, 101]⟩ (by decide) w h
  rw [show (⟨#[114, 97, 116, 101]⟩ : ByteArray).data.toList = wRate from rfl, ← h1] at c1
  have H2 := hid h2
  have H3 := hid h3
  clear h1 h2 h3 e h
  go_enter Tryz.func149, Tryz.ntmps149
  go_wp2_with fail
  refine c1.mono ?_
  rintro e w1 ⟨rfl, q1, g1⟩
  have c2 := number_any b tb cap ts s1 6 1000000000000 w1 q1
  rw [← H2.out] at c2
  clear q1
  go_wp2_with fail
  refine c2.mono ?_
  rintro e w2 ⟨rfl, q2, g2⟩
  have c3 := need_any b tb cap ts n.2 ⟨#[59]⟩ (by decide) w2 q2
  rw [show (⟨#[59]⟩ : ByteArray).data.toList = sSemi from rfl, ← H3.out] at c3
  clear q2
  go_wp2_with fail
  refine c3.mono ?_
  rintro e w3 ⟨rfl, q3, g3⟩
  have Q3 := hid q3
  clear q3
  go_wp2
  go_ret
  exact ⟨rfl, Q3.out, grown_trans g1 (grown_trans g2 g3)⟩
theorem kind_any (b tb cap : Nat) (ts : List Tok) (s : St) (w : World) (h : Rd w b tb cap ts s) :
    Calls Tryz.prog 124 #[.pointer (some ⟨b, 0, none⟩)] w fun e w' => e = .returned (.int .i64 (kindS ts s).1) ∧ Rd w' b tb cap ts (kindS ts s).2 ∧ w.grownBy w' (some b) := by
  have c1 := next_any b tb cap ts s ⟨#[103, 114, 97, 100, 117, 97, 116, 101, 100]⟩ (by decide) w h
  rw [show (⟨#[103, 114, 97, 100, 117, 97, 116, 101, 100]⟩ : ByteArray).data.toList = wGraduated from rfl] at c1
  cases o1 : onW ts s wGraduated
  · have e1 : tke ts s wGraduated = (false, s) := by unfold tke; rw [o1]; rfl
    rw [e1] at c1
    cases o2 : onW ts s wVolume
    · have e2 : tke ts s wVolume = (false, s) := by unfold tke; rw [o2]; rfl
      have e : kindS ts s = (0, wrg ts s 4) := by unfold kindS oneS kinds oneAt; rw [o1]; simp only [Bool.false_eq_true, if_false]; unfold oneAt; rw [o2]; rfl
      rw [e]
      have HE := hid e2
      clear e e1 e2 o1 o2 h
      go_enter Tryz.func124, Tryz.ntmps124
      go_wp2_with fail
      refine c1.mono ?_
      rintro e w1 ⟨rfl, q1, g1⟩
      have c2 := next_any b tb cap ts s ⟨#[118, 111, 108, 117, 109, 101]⟩ (by decide) w1 q1
      rw [show (⟨#[118, 111, 108, 117, 109, 101]⟩ : ByteArray).data.toList = wVolume from rfl, HE.out] at c2
      clear q1
      go_wp2_with fail
      refine c2.mono ?_
      rintro e w2 ⟨rfl, q2, g2⟩
      have c3 := refuse_any b tb cap ts s 4 (by decide) w2 q2
      clear q2
      go_wp2_with fail
      refine c3.mono ?_
      rintro e w3 ⟨rfl, q3, g3⟩
      have Q3 := hid q3
      clear q3
      go_wp2
      go_ret
      exact ⟨rfl, Q3.out, grown_trans g1 (grown_trans g2 g3)⟩
    · have e2 : tke ts s wVolume = (true, s.next) := by unfold tke; rw [o2]; rfl
      have e : kindS ts s = (2, s.next) := by unfold kindS oneS kinds oneAt; rw [o1]; simp only [Bool.false_eq_true, if_false]; unfold oneAt; rw [o2]; rfl
      rw [e]
      have HE := hid e2
      clear e e1 e2 o1 o2 h
      go_enter Tryz.func124, Tryz.ntmps124
      go_wp2_with fail
      refine c1.mono ?_
      rintro e w1 ⟨rfl, q1, g1⟩
      have c2 := next_any b tb cap ts s ⟨#[118, 111, 108, 117, 109, 101]⟩ (by decide) w1 q1
      rw [show (⟨#[118, 111, 108, 117, 109, 101]⟩ : ByteArray).data.toList = wVolume from rfl, HE.out] at c2
      clear q1
      go_wp2_with fail
      refine c2.mono ?_
      rintro e w2 ⟨rfl, q2, g2⟩
      have Q2 := hid q2
      clear q2
      go_wp2
      go_ret
      exact ⟨rfl, Q2.out, grown_trans g1 g2⟩
  · have e1 : tke ts s wGraduated = (true, s.next) := by unfold tke; rw [o1]; rfl
    have e : kindS ts s = (1, s.next) := by unfold kindS oneS kinds oneAt; rw [o1]; rfl
    rw [e1] at c1
    rw [e]
    clear e e1 o1 h
    go_enter Tryz.func124, Tryz.ntmps124
    go_wp2_with fail
    refine c1.mono ?_
    rintro e w1 ⟨rfl, q1, g1⟩
    have Q1 := hid q1
    clear q1
    go_wp2
    go_ret
    exact ⟨rfl, Q1.out, g1⟩
end Go.Proofs.YteelbdcgdkpioaaGreatDoor.Pa
/- What package parse does: modes. -/
namespace Go.Proofs.YteelbdcgdkpioaaGreatDoor.Pa
open Go.RowKit Go.Sort P Tl

theorem ix0 (W : World) : (Instr.index 69 (.agg #[.string ⟨#[102, 108, 111, 111, 114]⟩, .string ⟨#[99, 101, 105, 108]⟩, .string ⟨#[104, 97, 108, 102, 117, 112]⟩, .string ⟨#[104, 97, 108, 102, 101, 118, 101, 110]⟩]) (.int .i64 0)).run Tryz.prog W = .ok (.string ⟨#[102, 108, 111, 111, 114]⟩) W := by kernel_rfl
theorem ix1 (W : World) : (Instr.index 69 (.agg #[.string ⟨#[102, 108, 111, 111, 114]⟩, .string ⟨#[99, 101, 105, 108]⟩, .string ⟨#[104, 97, 108, 102, 117, 112]⟩, .string ⟨#[104, 97, 108, 102, 101, 118, 101, 110]⟩]) (.int .i64 1)).run Tryz.prog W = .ok (.string ⟨#[99, 101, 105, 108]⟩) W := by kernel_rfl
theorem ix2 (W : World) : (Instr.index 69 (.agg #[.string ⟨#[102, 108, 111, 111, 114]⟩, .string ⟨#[99, 101, 105, 108]⟩, .string ⟨#[104, 97, 108, 102, 117, 112]⟩, .string ⟨#[104, 97, 108, 102, 101, 118, 101, 110]⟩]) (.int .i64 2)).run Tryz.prog W = .ok (.string ⟨#[104, 97, 108, 102, 117, 112]⟩) W := by kernel_rfl
theorem ix3 (W : World) : (Instr.index 69 (.agg #[.string ⟨#[102, 108, 111, 111, 114]⟩, .string ⟨#[99, 101, 105, 108]⟩, .string ⟨#[104, 97, 108, 102, 117, 112]⟩, .string ⟨#[104, 97, 108, 102, 101, 118, 101, 110]⟩]) (.int .i64 3)).run Tryz.prog W = .ok (.string ⟨#[104, 97, 108, 102, 101, 118, 101, 110]⟩) W := by kernel_rfl
theorem mode_cut (ts : List Tok) (s : St) (i : Nat) (l : List UInt8) (r : List (List UInt8)) (k : Int) (h : modes.drop i = l :: r) : oneAt ts s (modes.drop i) k = if onW ts s l then (k, s.next) else oneAt ts s (modes.drop (i + 1)) (k + 1) := by
  have e : modes.drop (i + 1) = r := by rw [← List.drop_drop, h]; rfl
  rw [h, oneAt, e]
theorem mode_any (b tb cap : Nat) (ts : List Tok) (s : St) (w : World) (h : Rd w b tb cap ts s) :
    Calls Tryz.prog 126 #[.pointer (some ⟨b, 0, none⟩)] w fun e w' => e = .returned (.int .i64 (modeS ts s).1) ∧ Rd w' b tb cap ts (modeS ts s).2 ∧ w.grownBy w' (some b) := by
  have H := hid h
  have MD := h.ky.2
  have m0 : w.cell? ⟨2, 0, none⟩ = some (.string ⟨#[102, 108, 111, 111, 114]⟩) := MD 0 _ rfl
  have m1 : w.cell? ⟨2, 1, none⟩ = some (.string ⟨#[99, 101, 105, 108]⟩) := MD 1 _ rfl
  have m2 : w.cell? ⟨2, 2, none⟩ = some (.string ⟨#[104, 97, 108, 102, 117, 112]⟩) := MD 2 _ rfl
  have m3 : w.cell? ⟨2, 3, none⟩ = some (.string ⟨#[104, 97, 108, 102, 101, 118, 101, 110]⟩) := MD 3 _ rfl
  have x0 := ix0
  have x1 := ix1
  have x2 := ix2
  have x3 := ix3
  have lg := h.ky.lt.2
  obtain ⟨MS, hMS⟩ : ∃ MS, MS = modeS ts s := ⟨_, rfl⟩
  rw [← hMS]
  have HM := hid hMS
  clear MD h hMS
  go_enter Tryz.func126, Tryz.ntmps126
  go_wp2
  clear m0 m1 m2 m3
  go_loopw [6] (fun i wr => ∃ i' : Int, i = .int .i64 i' ∧ 0 ≤ i' ∧ i' ≤ 4 ∧ Hid (Rd wr b tb cap ts s ∧ w.grownBy wr (some b) ∧ oneS ts s modes = oneAt ts s (modes.drop i'.toNat) i')) (fun i _ => ((4 : Int) - intOf i).toNat)
  case atStart => exact ⟨0, rfl, by omega, by omega, hid ⟨H.out, grown_refl _ _, rfl⟩⟩
  case round =>
    obtain ⟨i', rfl, i0, i1, hst⟩ := hrel
    have hcase : i' = 0 ∨ i' = 1 ∨ i' = 2 ∨ i' = 3 ∨ i' = 4 := by omega
    rcases hcase with rfl | rfl | rfl | rfl | rfl
    · have cT := next_any b tb cap ts s ⟨#[102, 108, 111, 111, 114]⟩ (by decide) wr hst.out.1
      rw [show (⟨#[102, 108, 111, 111, 114]⟩ : ByteArray).data.toList = [102, 108, 111, 111, 114] from rfl] at cT
      have hd := hst.out.2.2
      rw [mode_cut ts s (0 : Int).toNat [102, 108, 111, 111, 114] _ 0 rfl] at hd
      cases ho : onW ts s [102, 108, 111, 111, 114]
      · have e : tke ts s [102, 108, 111, 111, 114] = (false, s) := by unfold tke; rw [ho]; rfl
        rw [e] at cT
        rw [ho] at hd
        have HD := hid hd
        clear e ho hd
        go_wp2_with (go_at_call 87; refine cT.mono ?_; rintro e w1 ⟨rfl, q1, g1⟩; have Q1 := hid q1; have G1 := hid g1; clear q1 g1)
        go_roundw
        case rel => exact ⟨1, rfl, by omega, by omega, hid ⟨Q1.out, grown_trans hst.out.2.1 G1.out, HD.out⟩⟩
        case measure => simp [intOf]
      · have e : tke ts s [102, 108, 111, 111, 114] = (true, s.next) := by unfold tke; rw [ho]; rfl
        rw [e] at cT
        rw [ho] at hd
        have ME : Hid (MS = (0, s.next)) := hid (by rw [HM.out]; unfold modeS; rw [hd]; rfl)
        clear e ho hd
        go_wp2_with (go_at_call 87; refine cT.mono ?_; rintro e w1 ⟨rfl, q1, g1⟩; have Q1 := hid q1; have G1 := hid g1; clear q1 g1)
        go_ret
        exact ⟨by rw [ME.out]; rfl, by rw [ME.out]; exact Q1.out, grown_trans hst.out.2.1 G1.out⟩
    · have cT := next_any b tb cap ts s ⟨#[99, 101, 105, 108]⟩ (by decide) wr hst.out.1
      rw [show (⟨#[99, 101, 105, 108]⟩ : ByteArray).data.toList = [99, 101, 105, 108] from rfl] at cT
      have hd := hst.out.2.2
      rw [mode_cut ts s (1 : Int).toNat [99, 101, 105, 108] _ 1 rfl] at hd
      cases ho : onW ts s [99, 101, 105, 108]
      · have e : tke ts s [99, 101, 105, 108] = (false, s) := by unfold tke; rw [ho]; rfl
        rw [e] at cT
        rw [ho] at hd
        have HD := hid hd
        clear e ho hd
        go_wp2_with (go_at_call 87; refine cT.mono ?_; rintro e w1 ⟨rfl, q1, g1⟩; have Q1 := hid q1; have G1 := hid g1; clear q1 g1)
        go_roundw
        case rel => exact ⟨2, rfl, by omega, by omega, hid ⟨Q1.out, grown_trans hst.out.2.1 G1.out, HD.out⟩⟩
        case measure => simp [intOf]
      · have e : tke ts s [99, 101, 105, 108] = (true, s.next) := by unfold tke; rw [ho]; rfl
        rw [e] at cT
        rw [ho] at hd
        have ME : Hid (MS = (1, s.next)) := hid (by rw [HM.out]; unfold modeS; rw [hd]; rfl)
        clear e ho hd
        go_wp2_with (go_at_call 87; refine cT.mono ?_; rintro e w1 ⟨rfl, q1, g1⟩; have Q1 := hid q1; have G1 := hid g1; clear q1 g1)
        go_ret
        exact ⟨by rw [ME.out]; rfl, by rw [ME.out]; exact Q1.out, grown_trans hst.out.2.1 G1.out⟩
    · have cT := next_any b tb cap ts s ⟨#[104, 97, 108, 102, 117, 112]⟩ (by decide) wr hst.out.1
      rw [show (⟨#[104, 97, 108, 102, 117, 112]⟩ : ByteArray).data.toList = [104, 97, 108, 102, 117, 112] from rfl] at cT
      have hd := hst.out.2.2
      rw [mode_cut ts s (2 : Int).toNat [104, 97, 108, 102, 117, 112] _ 2 rfl] at hd
      cases ho : onW ts s [104, 97, 108, 102, 117, 112]
      · have e : tke ts s [104, 97, 108, 102, 117, 112] = (false, s) := by unfold tke; rw [ho]; rfl
        rw [e] at cT
        rw [ho] at hd
        have HD := hid hd
        clear e ho hd
        go_wp2_with (go_at_call 87; refine cT.mono ?_; rintro e w1 ⟨rfl, q1, g1⟩; have Q1 := hid q1; have G1 := hid g1; clear q1 g1)
        go_roundw
        case rel => exact ⟨3, rfl, by omega, by omega, hid ⟨Q1.out, grown_trans hst.out.2.1 G1.out, HD.out⟩⟩
        case measure => simp [intOf]
      · have e : tke ts s [104, 97, 108, 102, 117, 112] = (true, s.next) := by unfold tke; rw [ho]; rfl
        rw [e] at cT
        rw [ho] at hd
        have ME : Hid (MS = (2, s.next)) := hid (by rw [HM.out]; unfold modeS; rw [hd]; rfl)
        clear e ho hd
        go_wp2_with (go_at_call 87; refine cT.mono ?_; rintro e w1 ⟨rfl, q1, g1⟩; have Q1 := hid q1; have G1 := hid g1; clear q1 g1)
        go_ret
        exact ⟨by rw [ME.out]; rfl, by rw [ME.out]; exact Q1.out, grown_trans hst.out.2.1 G1.out⟩
    · have cT := next_any b tb cap ts s ⟨#[104, 97, 108, 102, 101, 118, 101, 110]⟩ (by decide) wr hst.out.1
      rw [show (⟨#[104, 97, 108, 102, 101, 118, 101, 110]⟩ : ByteArray).data.toList = [104, 97, 108, 102, 101, 118, 101, 110] from rfl] at cT
      have hd := hst.out.2.2
      rw [mode_cut ts s (3 : Int).toNat [104, 97, 108, 102, 101, 118, 101, 110] _ 3 rfl] at hd
      cases ho : onW ts s [104, 97, 108, 102, 101, 118, 101, 110]
      · have e : tke ts s [104, 97, 108, 102, 101, 118, 101, 110] = (false, s) := by unfold tke; rw [ho]; rfl
        rw [e] at cT
        rw [ho] at hd
        have HD := hid hd
        clear e ho hd
        go_wp2_with (go_at_call 87; refine cT.mono ?_; rintro e w1 ⟨rfl, q1, g1⟩; have Q1 := hid q1; have G1 := hid g1; clear q1 g1)
        go_roundw
        case rel => exact ⟨4, rfl, by omega, by omega, hid ⟨Q1.out, grown_trans hst.out.2.1 G1.out, HD.out⟩⟩
        case measure => simp [intOf]
      · have e : tke ts s [104, 97, 108, 102, 101, 118, 101, 110] = (true, s.next) := by unfold tke; rw [ho]; rfl
        rw [e] at cT
        rw [ho] at hd
        have ME : Hid (MS = (3, s.next)) := hid (by rw [HM.out]; unfold modeS; rw [hd]; rfl)
        clear e ho hd
        go_wp2_with (go_at_call 87; refine cT.mono ?_; rintro e w1 ⟨rfl, q1, g1⟩; have Q1 := hid q1; have G1 := hid g1; clear q1 g1)
        go_ret
        exact ⟨by rw [ME.out]; rfl, by rw [ME.out]; exact Q1.out, grown_trans hst.out.2.1 G1.out⟩
    · have hd := hst.out.2.2
      have ME : Hid (MS = (0, wrg ts s 4)) := hid (by rw [HM.out]; unfold modeS; rw [hd]; rfl)
      have cR := refuse_any b tb cap ts s 4 (by decide) wr hst.out.1
      clear hd
      go_wp2_with (go_at_call 88; refine cR.mono ?_; rintro e w1 ⟨rfl, q1, g1⟩; have Q1 := hid q1; have G1 := hid g1; clear q1 g1)
      go_ret
      exact ⟨by rw [ME.out]; rfl, by rw [ME.out]; exact Q1.out, grown_trans hst.out.2.1 G1.out⟩
end Go.Proofs.YteelbdcgdkpioaaGreatDoor.Pa
/- What package parse does: windows, adjustments. -/
namespace Go.Proofs.YteelbdcgdkpioaaGreatDoor.Pa
open Go.RowKit Go.Sort P Tl

def winV (x : Mm.Win) : Value := .agg #[.bool x.has, .int .i64 x.a.y, .int .i64 x.a.m, .int .i64 x.a.d, .int .i64 x.b.y, .int .i64 x.b.m, .int .i64 x.b.d]
def z7 : List Value := [.bool false, .int .i64 0, .int .i64 0, .int .i64 0, .int .i64 0, .int .i64 0, .int .i64 0]
set_option maxHeartbeats 2000000 in
theorem window_any (b tb cap : Nat) (ts : List Tok) (s : St) (w : World) (h : Rd w b tb cap ts s) :
    Calls Tryz.prog 123 #[.pointer (some ⟨b, 0, none⟩)] w fun x w' => x = .returned (winV (winS ts s).1) ∧ Rd w' b tb cap ts (winS ts s).2 ∧ w.grownBy w' (some b) := by
  obtain ⟨w0, hw0⟩ : ∃ w0, w0 = w.alloc (.cells z7.toArray 46) := ⟨_, rfl⟩
  have b0 : Below w.heap.size w w0 := by rw [hw0]; exact (Below.refl _ _).alloc (Nat.le_refl _) _
  have Z0 : Bx w0 w.heap.size z7 := by rw [hw0]; exact Bx.new _ _ _
  have hb := h.lt
  have cF := next_any b tb cap ts s ⟨#[102, 114, 111, 109]⟩ (by decide) w0 (h.on b0)
  have eF : (⟨#[102, 114, 111, 109]⟩ : ByteArray).data.toList = wFrom := rfl
  rw [eF] at cF
  have HW0 : Hid (w.alloc (.cells #[.bool false, .int .i64 0, .int .i64 0, .int .i64 0, .int .i64 0, .int .i64 0, .int .i64 0] 46) = w0) := hid hw0.symm
  have nb : some w.heap.size ≠ some b := fun e => by have := Option.some.inj e; omega
  cases ho : onW ts s wFrom
  · have e : winS ts s = (⟨false, ⟨0, 0, 0⟩, ⟨0, 0, 0⟩⟩, s) := by unfold winS; rw [ho]; rfl
    have e2 : tke ts s wFrom = (false, s) := by unfold tke; rw [ho]; rfl
    rw [e]
    rw [e2] at cF
    have HZ0 := hid Z0
    clear e e2 ho h hw0 eF Z0
    go_enter Tryz.func123, Tryz.ntmps123
    go_wp2_with fail
    rw [HW0.out]
    refine cF.mono ?_
    rintro e w1 ⟨rfl, q1, g1⟩
    have Z1 := HZ0.out.grown g1 nb
    have c := Z1.cell
    have c0 := c 0 _ rfl
    have c1 := c 1 _ rfl
    have c2 := c 2 _ rfl
    have c3 := c 3 _ rfl
    have c4 := c 4 _ rfl
    have c5 := c 5 _ rfl
    have c6 := c 6 _ rfl
    have f0 := Z1.free 0
    have f1 := Z1.free 1
    have f2 := Z1.free 2
    have f3 := Z1.free 3
    have f4 := Z1.free 4
    have f5 := Z1.free 5
    have f6 := Z1.free 6
    have HQ1 := hid q1
    have GG := hid (grown_trans (grown_below b0) g1)
    clear c q1 g1 b0 Z1
    go_wp2
    exact bodyPost_ret (v := .agg #[.bool false, .int .i64 0, .int .i64 0, .int .i64 0, .int .i64 0, .int .i64 0, .int .i64 0]) (by simp [results, Tryz.results123, go_sem, *]) rfl ⟨rfl, by (iterate 7 (refine Rd.far' ?_ hb (Nat.le_refl _) _ _)); exact HQ1.out, by (iterate 7 (refine grown_put ?_ (Nat.le_refl _) _ _)); exact GG.out⟩
  · have ok1 := h.ok.next (onW_k ho)
    obtain ⟨A, hA⟩ : ∃ A, A = dayS ts s.next := ⟨_, rfl⟩
    obtain ⟨s2, hs2⟩ : ∃ s2, s2 = wnt ts A.2 wTo := ⟨_, rfl⟩
    obtain ⟨B, hB⟩ : ∃ B, B = dayS ts s2 := ⟨_, rfl⟩
    have e : winS ts s = (⟨true, A.1, B.1⟩, B.2) := by unfold winS; rw [ho, hB, hs2, hA]; rfl
    have e2 : tke ts s wFrom = (true, s.next) := by unfold tke; rw [ho]; rfl
    rw [e]
    rw [e2] at cF
    have HA := hid hA
    have HS2 := hid hs2
    have HB := hid hB
    have HZ0 := hid Z0
    clear e e2 ho h hw0 eF Z0 hA hs2 hB
    go_enter Tryz.func123, Tryz.ntmps123
    go_wp2_with fail
    rw [HW0.out]
    refine cF.mono ?_
    rintro e w1 ⟨rfl, q1, g1⟩
    have HZ1 := hid (HZ0.out.grown g1 nb)
    have G1 := hid (grown_trans (grown_below b0) g1)
    obtain ⟨w2, hw2⟩ : ∃ w2, w2 = w1.alloc (.cells #[.bool true, .int .i64 0, .int .i64 0, .int .i64 0, .int .i64 0, .int .i64 0, .int .i64 0] 46) := ⟨_, rfl⟩
    have b2 : Below w1.heap.size w1 w2 := by rw [hw2]; exact (Below.refl _ _).alloc (Nat.le_refl _) _
    have Y2 : Bx w2 w1.heap.size [.bool true, .int .i64 0, .int .i64 0, .int .i64 0, .int .i64 0, .int .i64 0, .int .i64 0] := by rw [hw2]; exact Bx.new _ _ _
    have HZ2 := hid (HZ1.out.on b2)
    have G2 := hid (grown_trans G1.out (grown_below b2))
    have cA := day_any b tb cap ts s.next w2 (q1.on b2)
    rw [← HA.out] at cA
    unfold dayV at cA
    have HW2 := hid hw2
    obtain ⟨ka, hka⟩ : ∃ ka, ka = w1.heap.size := ⟨_, rfl⟩
    have hbk : ka ≠ b := by have := q1.lt; omega
    have hak : w.heap.size < ka := by have := HZ1.out.lt; omega
    have nka : some ka ≠ some b := fun e => hbk (Option.some.inj e)
    have hz : ka ≠ w.heap.size := by omega
    have hz' : w.heap.size ≠ ka := by omega
    have HKA := hid hka
    rw [← hka] at Y2
    clear q1 g1 b0 b2 hw2 hka
    go_wp2_with fail
    rw [← HW2.out, ← HKA.out]
    refine cA.mono ?_
    rintro e w3 ⟨rfl, q3, g3⟩
    have Y3 := Y2.grown g3 nka
    have HZ3 := hid (HZ2.out.grown g3 nb)
    have G3 := hid (grown_trans G2.out g3)
    have d1 := Y3.cell 1 _ rfl
    have d2 := Y3.cell 2 _ rfl
    have d3 := Y3.cell 3 _ rfl
    have f1 := Y3.free 1
    have f2 := Y3.free 2
    have f3 := Y3.free 3
    have lk := Y3.lt
    obtain ⟨w4, hw4⟩ : ∃ w4, w4 = (((w3.setCell ⟨ka, 1, none⟩ (.int .i64 A.1.y)).setCell ⟨ka, 2, none⟩ (.int .i64 A.1.m)).setCell ⟨ka, 3, none⟩ (.int .i64 A.1.d)) := ⟨_, rfl⟩
    have Y4 : Bx w4 ka [.bool true, .int .i64 A.1.y, .int .i64 A.1.m, .int .i64 A.1.d, .int .i64 0, .int .i64 0, .int .i64 0] := by rw [hw4]; exact ((Y3.set 1 _).set 2 _).set 3 _
    have Z4 : Bx w4 w.heap.size z7 := by rw [hw4]; exact ((HZ3.out.other (p := ⟨ka, 1, none⟩) hz' _).other (p := ⟨ka, 2, none⟩) hz' _).other (p := ⟨ka, 3, none⟩) hz' _
    have q4 : Rd w4 b tb cap ts A.2 := by rw [hw4]; exact ((q3.far' hb (Nat.le_of_lt hak) _ _).far' hb (Nat.le_of_lt hak) _ _).far' hb (Nat.le_of_lt hak) _ _
    have g4 : w.grownBy w4 (some b) := by rw [hw4]; exact grown_put (grown_put (grown_put G3.out (Nat.le_of_lt hak) _ _) (Nat.le_of_lt hak) _ _) (Nat.le_of_lt hak) _ _
    have HW4 := hid hw4
    have cW := need_any b tb cap ts A.2 ⟨#[116, 111]⟩ (by decide) w4 q4
    have eT : (⟨#[116, 111]⟩ : ByteArray).data.toList = wTo := rfl
    rw [eT, ← HS2.out] at cW
    have HZ4 := hid Z4
    clear q3 g3 Y3 hw4 q4 eT Z4
    go_wp2_with fail
    rw [← HW4.out]
    refine cW.mono ?_
    rintro e w5 ⟨rfl, q5, g5⟩
    have HY5 := hid (Y4.grown g5 nka)
    have HZ5 := hid (HZ4.out.grown g5 nb)
    have G5 := hid (grown_trans g4 g5)
    have cB := day_any b tb cap ts s2 w5 q5
    rw [← HB.out] at cB
    unfold dayV at cB
    clear d1 d2 d3 f1 f2 f3 lk q5 g5 g4 Y4
    go_wp2_with fail
    refine cB.mono ?_
    rintro e w6 ⟨rfl, q6, g6⟩
    have Y6 := HY5.out.grown g6 nka
    have Z6 := HZ5.out.grown g6 nb
    have G6 := hid (grown_trans G5.out g6)
    have d0 := Y6.cell 0 _ rfl
    have d1 := Y6.cell 1 _ rfl
    have d2 := Y6.cell 2 _ rfl
    have d3 := Y6.cell 3 _ rfl
    have d4 := Y6.cell 4 _ rfl
    have d5 := Y6.cell 5 _ rfl
    have d6 := Y6.cell 6 _ rfl
    have f4 := Y6.free 4
    have f5 := Y6.free 5
    have f6 := Y6.free 6
    have lk := Y6.lt
    have c0 := Z6.cell 0 _ rfl
    have c1 := Z6.cell 1 _ rfl
    have c2 := Z6.cell 2 _ rfl
    have c3 := Z6.cell 3 _ rfl
    have c4 := Z6.cell 4 _ rfl
    have c5 := Z6.cell 5 _ rfl
    have c6 := Z6.cell 6 _ rfl
    have r0 := Z6.free 0
    have r1 := Z6.free 1
    have r2 := Z6.free 2
    have r3 := Z6.free 3
    have r4 := Z6.free 4
    have r5 := Z6.free 5
    have r6 := Z6.free 6
    have lz := Z6.lt
    have HQ6 := hid q6
    clear q6 g6 Y6 Z6 nb nka hak
    go_wp2
    have hak : w.heap.size ≤ ka := by have := HKA.out; have := HZ1.out.lt; omega
    exact bodyPost_ret (v := .agg #[.bool true, .int .i64 A.1.y, .int .i64 A.1.m, .int .i64 A.1.d, .int .i64 B.1.y, .int .i64 B.1.m, .int .i64 B.1.d]) (by simp [results, Tryz.results123, go_sem, *]) rfl ⟨rfl, by (iterate 7 (refine Rd.far' ?_ hb (Nat.le_refl _) _ _)); (iterate 3 (refine Rd.far' ?_ hb hak _ _)); exact HQ6.out, by (iterate 7 (refine grown_put ?_ (Nat.le_refl _) _ _)); (iterate 3 (refine grown_put ?_ hak _ _)); exact G6.out⟩
/-- An adjustment of another kind than a percentage, behind its word. -/
theorem amount_any (b tb cap : Nat) (ts : List Tok) (s : St) (k : Int) (w : World) (h : Rd w b tb cap ts s) :
    Calls Tryz.prog 151 #[.pointer (some ⟨b, 0, none⟩), .int .i64 k] w fun x w' => x = .returned (.agg #[.int .i64 k, .int .i64 (numS ts s 0 1000000000000).1, .int .i64 0]) ∧ Rd w' b tb cap ts (numS ts s 0 1000000000000).2 ∧ w.grownBy w' (some b) := by
  obtain ⟨w0, hw0, b0, B0⟩ := loaded w [.int .i64 0, .int .i64 0, .int .i64 0] 100
  have HW : Hid (w.alloc (.cells #[.int .i64 0, .int .i64 0, .int .i64 0] 100) = w0) := hid hw0
  have hb := h.lt
  have cN := whole_any b tb cap ts s 1000000000000 w0 (h.on b0)
  generalize numS ts s 0 1000000000000 = X at *
  have nb : some w.heap.size ≠ some b := fun e => by have := Option.some.inj e; omega
  have G0 := hid b0
  clear h hw0 b0
  go_enter Tryz.func151, Tryz.ntmps151
  go_wp2_with fail
  rw [HW.out]
  refine cN.mono ?_
  rintro e w1 ⟨rfl, q1, g1⟩
  have Z1 := B0.grown g1 nb
  have c0 := Z1.cell 0 _ rfl
  have c1 := Z1.cell 1 _ rfl
  have c2 := Z1.cell 2 _ rfl
  have f0 := Z1.free 0
  have f1 := Z1.free 1
  have f2 := Z1.free 2
  have lz := Z1.lt
  have HQ1 := hid q1
  have G1 := hid g1
  clear q1 g1 Z1 B0 nb
  go_wp2
  exact bodyPost_ret (v := .agg #[.int .i64 k, .int .i64 X.1, .int .i64 0]) (by simp [results, Tryz.results151, go_sem, *]) rfl ⟨rfl, by (iterate 3 (refine Rd.far' ?_ hb (Nat.le_refl _) _ _)); exact HQ1.out, by (iterate 3 (refine grown_put ?_ (Nat.le_refl _) _ _)); exact grown_trans (grown_below G0.out) G1.out⟩
theorem percent_any (b tb cap : Nat) (ts : List Tok) (s : St) (w : World) (h : Rd w b tb cap ts s) :
    Calls Tryz.prog 150 #[.pointer (some ⟨b, 0, none⟩)] w fun x w' => x = .returned (.agg #[.int .i64 1, .int .i64 (numS ts s 3 100000000).1, .int .i64 (modeS ts (numS ts s 3 100000000).2).1]) ∧ Rd w' b tb cap ts (modeS ts (numS ts s 3 100000000).2).2 ∧ w.grownBy w' (some b) := by
  obtain ⟨X, hX⟩ : ∃ X, X = numS ts s 3 100000000 := ⟨_, rfl⟩
  obtain ⟨M, hM⟩ : ∃ M, M = modeS ts X.2 := ⟨_, rfl⟩
  rw [← hX, ← hM]
  obtain ⟨w0, hw0, b0, B0⟩ := loaded w [.int .i64 0, .int .i64 0, .int .i64 0] 100
  have HW : Hid (w.alloc (.cells #[.int .i64 0, .int .i64 0, .int .i64 0] 100) = w0) := hid hw0
  obtain ⟨w1, hw1, b1, B1⟩ := loaded w0 [.int .i64 1, .int .i64 0, .int .i64 0] 100
  have HW1 : Hid (w0.alloc (.cells #[.int .i64 1, .int .i64 0, .int .i64 0] 100) = w1) := hid hw1
  have hb := h.lt
  have sz : w0.heap.size = w.heap.size + 1 := by rw [← hw0]; simp
  have cN := number_any b tb cap ts s 3 100000000 w1 ((h.on b0).on b1)
  rw [← hX] at cN
  have HM := hid hM
  have nb : some w.heap.size ≠ some b := fun e => by have := Option.some.inj e; omega
  obtain ⟨ka, hka⟩ : ∃ ka, ka = w0.heap.size := ⟨_, rfl⟩
  rw [← hka] at B1
  have nka : some ka ≠ some b := fun e => by have := Option.some.inj e; omega
  have G1 := hid (grown_trans (grown_below (row := some b) b0) (grown_below b1))
  have Z1 := hid (B0.on b1)
  have hz : ka ≠ w.heap.size := by omega
  have hz' : w.heap.size ≠ ka := by omega
  have HAK := hid (show w.heap.size ≤ ka by omega)
  have HKA := hid hka
  have eka : Hid (w.heap.size + 1 = ka) := hid (by omega)
  clear h hw0 hw1 b0 b1 B0 hX hM hka sz
  go_enter Tryz.func150, Tryz.ntmps150
  go_wp2_with fail
  rw [HW.out, HW1.out, eka.out]
  refine cN.mono ?_
  rintro e w2 ⟨rfl, q2, g2⟩
  have Y2 := B1.grown g2 nka
  have Z2 := hid (Z1.out.grown g2 nb)
  have d1 := Y2.cell 1 _ rfl
  have f1 := Y2.free 1
  have lk := Y2.lt
  obtain ⟨w3, hw3⟩ : ∃ w3, w3 = w2.setCell ⟨ka, 1, none⟩ (.int .i64 X.1) := ⟨_, rfl⟩
  have Y3 : Bx w3 ka [.int .i64 1, .int .i64 X.1, .int .i64 0] := by rw [hw3]; exact Y2.set 1 _
  have Z3 : Bx w3 w.heap.size [.int .i64 0, .int .i64 0, .int .i64 0] := by rw [hw3]; exact Z2.out.other (p := ⟨ka, 1, none⟩) hz' _
  have q3 : Rd w3 b tb cap ts X.2 := by rw [hw3]; exact q2.far' hb HAK.out _ _
  have g3 : w.grownBy w3 (some b) := by rw [hw3]; exact grown_put (grown_trans G1.out g2) HAK.out _ _
  have HW3 := hid hw3
  have cM := mode_any b tb cap ts X.2 w3 q3
  rw [← HM.out] at cM
  have HY3 := hid Y3
  have HZ3 := hid Z3
  clear q2 g2 Y2 hw3 q3 Y3 Z3
  go_wp2_with fail
  rw [← HW3.out]
  refine cM.mono ?_
  rintro e w4 ⟨rfl, q4, g4⟩
  clear d1 f1 lk
  have Y4 := HY3.out.grown g4 nka
  have Z4 := HZ3.out.grown g4 nb
  have d0 := Y4.cell 0 _ rfl
  have d1 := Y4.cell 1 _ rfl
  have d2 := Y4.cell 2 _ rfl
  have f2 := Y4.free 2
  have lk := Y4.lt
  have c0 := Z4.cell 0 _ rfl
  have c1 := Z4.cell 1 _ rfl
  have c2 := Z4.cell 2 _ rfl
  have r0 := Z4.free 0
  have r1 := Z4.free 1
  have r2 := Z4.free 2
  have lz := Z4.lt
  have HQ4 := hid q4
  have G4 := hid (grown_trans g3 g4)
  clear q4 g4 g3 Y4 Z4 nb nka
  go_wp2
  exact bodyPost_ret (v := .agg #[.int .i64 1, .int .i64 X.1, .int .i64 M.1]) (by simp [results, Tryz.results150, go_sem, *]) rfl ⟨rfl, by (iterate 3 (refine Rd.far' ?_ hb (Nat.le_refl _) _ _)); exact HQ4.out.far' hb HAK.out _ _, by (iterate 3 (refine grown_put ?_ (Nat.le_refl _) _ _)); exact grown_put G4.out HAK.out _ _⟩
end Go.Proofs.YteelbdcgdkpioaaGreatDoor.Pa
