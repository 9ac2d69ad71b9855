/- The laws of layer 9: CheckParts. -/
import Derived.Test.YtnhhhnngocdagaaDoorJLaid
import Derived.Test.YtnhhhnngocdagaaDoorJJoin
import Derived.Deep.RegionHeldLaw
namespace Go.Proofs.YtnhhhnngocdagaaDoor.L09
open Go.RowKit Go.Sort P Mm Md R6 R9 Cc
theorem gk_of {w w' : World} {k : Nat} (h : Below w.heap.size w w') : Gk w k w' := ⟨h.os, h.tape, h.output, h.size, fun j hj _ => h.block j hj⟩
theorem info_feeJ : (Tryd.prog.info? 50).map (fun i => (i.zero, i.size, i.bytes)) = some (some (.agg (feeC ⟨0, ⟨false, ⟨0, 0, 0⟩, ⟨0, 0, 0⟩⟩, 0, 0⟩).toArray), 10, 80) := by kernel_rfl
theorem info_chargeJ : (Tryd.prog.info? 54).map (fun i => (i.zero, i.size, i.bytes)) = some (some (.agg (chargeC ⟨⟨#[]⟩, ⟨false, ⟨0, 0, 0⟩, ⟨0, 0, 0⟩⟩, 0, 0, 0, [], 0, [], 0, 0⟩ none 0 none 0).toArray), 16, 168) := by kernel_rfl
theorem bel_join {wD W W' : World} {v : Value} (b : Below wD.heap.size wD W) (g : W.grownBy W' v.ownBlock) (hv : ∀ k, v.ownBlock = some k → wD.heap.size ≤ k) : Below wD.heap.size wD W' :=
  b.grown g b.size hv
theorem fl_take {β : Type} (css : List (List β)) (k : Nat) {j : Nat} {u : β} (hj : (css.take k).flatten[j]? = some u) : css.flatten[j]? = some u := by
  have e : css.flatten = (css.take k).flatten ++ (css.drop k).flatten := by rw [← List.flatten_append, List.take_append_drop]
  rw [e, List.getElem?_append_left (List.getElem?_eq_some_iff.1 hj).1]
  exact hj
theorem fl_drop {β : Type} {n : Nat} (css : List (List β)) (h : ∀ cs ∈ css, cs.length = n) (k : Nat) (hk : k ≤ css.length) {j : Nat} {u : β} (hj : (css.drop k).flatten[j]? = some u) : css.flatten[k * n + j]? = some u := by
  have e : css.flatten = (css.take k).flatten ++ (css.drop k).flatten := by rw [← List.flatten_append, List.take_append_drop]
  have el : (css.take k).flatten.length = k * n := by rw [fl_len (n := n) _ (fun cs hc => h cs (List.mem_of_mem_take hc)), List.length_take, Nat.min_eq_left hk]
  rw [e, List.getElem?_append_right (by omega), el, show k * n + j - k * n = j by omega]
  exact hj
theorem ch_less {α : Type} {T : Ty α} {w : World} {css : List (List Value)} {xs : List α} (h : Ch T w css xs) (k : Nat) : Ch T w (css.take k ++ css.drop (k + 1)) (xs.eraseIdx k) := by
  rw [List.eraseIdx_eq_take_drop_succ]
  refine Ch.app ⟨by rw [List.length_take, List.length_take, h.len], fun j cs x h1 h2 => ?_⟩ ⟨by rw [List.length_drop, List.length_drop, h.len], fun j cs x h1 h2 => ?_⟩
  · rw [List.getElem?_take] at h1 h2
    split at h1
    · rename_i hlt
      rw [if_pos hlt] at h2
      exact h.lies j cs x h1 h2
    · cases h1
  · rw [List.getElem?_drop] at h1 h2
    exact h.lies _ cs x h1 h2
theorem sh_less_fee {p : Plan} (h : Sh p) (k : Nat) : Sh { p with fees := p.fees.eraseIdx k } :=
  ⟨h.meters, fun f hf => h.fees f (List.mem_of_mem_eraseIdx hf), h.charges, ⟨h.cnt.1, Nat.le_trans (List.length_eraseIdx_le ..) h.cnt.2.1, h.cnt.2.2⟩, h.name⟩
theorem sh_less_charge {p : Plan} (h : Sh p) (k : Nat) : Sh { p with charges := p.charges.eraseIdx k } :=
  ⟨h.meters, h.fees, fun c hc => h.charges c (List.mem_of_mem_eraseIdx hc), ⟨h.cnt.1, h.cnt.2.1, Nat.le_trans (List.length_eraseIdx_le ..) h.cnt.2.2⟩, h.name⟩
set_option maxHeartbeats 40000000 in
set_option maxRecDepth 100000 in
theorem parts_walk (s : ByteArray) (a : Int) (ia : I64 a) (w : World) (kz : Sw.Kz w) : Calls Tryd.prog 3 #[.string s, .int .i64 a] w fun e w' => e = .returned (.bool true) ∧ Below w.heap.size w w' := by
  have cA := alive_any w
  have KZ := hid kz
  have c1 := hid (fun W => of_any s W)
  obtain ⟨p, hp⟩ : ∃ p, p = (parsed s.data.toList).1 := ⟨_, rfl⟩
  obtain ⟨K, hK⟩ : ∃ K, K = okT s := ⟨_, rfl⟩
  have PL : Hid (K = true → Pl9 p ∧ Sh p) := hid (fun h => by
    rw [hK] at h
    have h1 := (okT_t h).1
    exact ⟨by rw [hp]; exact pl9_of h1, by rw [hp]; exact parsed_sh h1⟩)
  rw [← hp, ← hK] at c1
  unfold planC at c1
  have HIA := hid ia
  clear hp hK kz ia
  go_enter Tryd.func3, Tryd.ntmps3
  go_wp2_with fail
  refine cA.mono ?_
  rintro e w0 ⟨rfl, b0⟩
  have B0 := hid b0
  clear cA b0
  go_wp2_with fail
  refine (c1.out w0).mono ?_
  rintro e w1 ⟨ma, mc, fa, fc, ca, cc, rfl, lp, b1⟩
  obtain ⟨wA, hwA⟩ : ∃ W, W = w1.alloc (.cells [.string p.name, .string p.cur, .int .i64 p.a.y, .int .i64 p.a.m, .int .i64 p.a.d, .int .i64 p.b.y, .int .i64 p.b.m, .int .i64 p.b.d, .slice ma p.meters.length mc, .slice fa p.fees.length fc, .slice ca p.charges.length cc, .int .i64 p.line, .int .i64 p.col].toArray 29) := ⟨_, rfl⟩
  have bA : Below w1.heap.size w1 wA := by rw [hwA]; exact bel_alloc _ _
  obtain ⟨kA, hkA⟩ : ∃ k, k = w1.heap.size := ⟨_, rfl⟩
  have XA : Box wA kA [.string p.name, .string p.cur, .int .i64 p.a.y, .int .i64 p.a.m, .int .i64 p.a.d, .int .i64 p.b.y, .int .i64 p.b.m, .int .i64 p.b.d, .slice ma p.meters.length mc, .slice fa p.fees.length fc, .slice ca p.charges.length cc, .int .i64 p.line, .int .i64 p.col] := by rw [hwA, hkA]; exact Box.new _ _ _
  have X := hid (fun (W : World) (b : Below wA.heap.size wA W) => (⟨XA.on b, lp.on (bel_on bA b), bel_on (bel_on B0.out (bel_on b1 bA)) b⟩ : Box W kA _ ∧ PlanLies W _ p ma mc fa fc ca cc ∧ Below w.heap.size w W))
  have HWA := hid hwA
  have HKA := hid hkA
  clear b1 bA lp hwA hkA XA c1 B0
  go_upto_region 4 with (first | (with_reducible refine wpList_store_new (op := Oper.mk none (Op.store 29 (Operand.tmp 5) (Operand.tmp 20)) _ _ _ _) ?_ 29 (.tmp 5) (.tmp 20) ?_ w1 #[.string ⟨#[]⟩, .string ⟨#[]⟩, .int .i64 0, .int .i64 0, .int .i64 0, .int .i64 0, .int .i64 0, .int .i64 0, .slice none 0 0, .slice none 0 0, .slice none 0 0, .int .i64 0, .int .i64 0] #[.string p.name, .string p.cur, .int .i64 p.a.y, .int .i64 p.a.m, .int .i64 p.a.d, .int .i64 p.b.y, .int .i64 p.b.m, .int .i64 p.b.d, .slice ma p.meters.length mc, .slice fa p.fees.length fc, .slice ca p.charges.length cc, .int .i64 p.line, .int .i64 p.col] ?_ ?_ ?_ ?_ ?_ ?_; rfl; rfl; go_simp; go_simp; kernel_rfl; rfl; (simp [Value.oneCell'])) | fail)
  rw [← HWA.out, ← HKA.out]
  clear HWA HKA
  by_cases hK : K = false
  · have BF := hid (X.out wA (Below.refl _ _)).2.2
    subst hK
    go_wp2
    go_ret
    exact ⟨rfl, BF.out⟩
  obtain rfl : K = true := by simpa using hK
  obtain ⟨PP, SP⟩ := PL.out rfl
  have HPP := hid PP
  have HSP := hid SP
  obtain ⟨e1, he1⟩ : ∃ a, a = (wrongOf p).1 := ⟨_, rfl⟩
  obtain ⟨e2, he2⟩ : ∃ a, a = (wrongOf p).2.1 := ⟨_, rfl⟩
  obtain ⟨e3, he3⟩ : ∃ a, a = (wrongOf p).2.2 := ⟨_, rfl⟩
  have cP := hid (fun (W : World) (bw : Below wA.heap.size wA W) => Cc.plan_any p ma mc fa fc ca cc W (X.out W bw).2.1 HPP.out)
  rw [← he1, ← he2, ← he3] at cP
  have WZ : Hid (e1 = 0 → e2 = 0 ∧ e3 = 0 ∧ (wrongOf p).1 = 0) := hid (fun h => by
    have := wrong_nought (p := p) (by rw [← he1]; exact h)
    rw [he2, he3, this]
    exact ⟨rfl, rfl, rfl⟩)
  clear he1 he2 he3 PP SP PL hK
  have RP := hid (range_of (X.out wA (Below.refl _ _)).1.cell)
  go_wp2_with (first | ((with_reducible refine wpList_load_midg (op := Oper.mk (some 25) (Op.load 29 (Operand.tmp 5)) _ _ _ _) ?_ 29 (.tmp 5) ?_ kA 0 ?_ [.string p.name, .string p.cur, .int .i64 p.a.y, .int .i64 p.a.m, .int .i64 p.a.d, .int .i64 p.b.y, .int .i64 p.b.m, .int .i64 p.b.d, .slice ma p.meters.length mc, .slice fa p.fees.length fc, .slice ca p.charges.length cc, .int .i64 p.line, .int .i64 p.col] _ RP.out Tryd.underlying29 ?_ ?_ ?_); (first | (exact wantg rfl (by kernel_rfl) rfl)); rfl; go_simp; rfl; kernel_rfl) | fail)
  refine (cP.out wA (Below.refl _ _)).mono ?_
  rintro e w2 ⟨rfl, b2⟩
  have B2 := hid b2
  clear b2 cP RP
  by_cases hz : e1 = 0
  rotate_left
  · have gb : (e1 == 0) = false := by simpa using hz
    have BF := hid (X.out w2 B2.out).2.2
    clear WZ hz
    go_wp2
    go_ret
    exact ⟨rfl, BF.out⟩
  obtain ⟨z2, z3, W0⟩ := WZ.out hz
  have HW0 := hid W0
  subst hz
  subst z2
  subst z3
  clear WZ W0
  obtain ⟨nF, hnF⟩ : ∃ n, n = p.fees.length := ⟨_, rfl⟩
  obtain ⟨nC, hnC⟩ : ∃ n, n = p.charges.length := ⟨_, rfl⟩
  have qF : nF ≤ 20000 := by rw [hnF]; exact HPP.out.cnt.2.1
  have qC : nC ≤ 20000 := by rw [hnC]; exact HPP.out.cnt.2.2
  have uF : nF ≤ fc := by rw [hnF]; exact (X.out w2 B2.out).2.1.fees.hcap
  have uC : nC ≤ cc := by rw [hnC]; exact (X.out w2 B2.out).2.1.charges.hcap
  have uF2 := (X.out w2 B2.out).2.1.fees.hmax
  have uC2 := (X.out w2 B2.out).2.1.charges.hmax
  have HNF := hid hnF
  have HNC := hid hnC
  have c9 := (X.out w2 B2.out).1.cell 9 _ rfl
  have c10 := (X.out w2 B2.out).1.cell 10 _ rfl
  rw [← hnF] at c9
  rw [← hnC] at c10
  clear hnF hnC
  rcases (show a < 0 ∨ (0 ≤ a ∧ (nF : Int) + nC ≤ a) ∨ (∃ k : Nat, a = (k : Int) ∧ k < nF) ∨ (∃ j : Nat, a = (nF : Int) + (j : Int) ∧ j < nC) by
    rcases Int.lt_or_le a 0 with h | h
    · exact .inl h
    · rcases Int.lt_or_le a ((nF : Int) + nC) with h2 | h2
      · rcases Int.lt_or_le a (nF : Int) with h3 | h3
        · exact .inr (.inr (.inl ⟨a.toNat, by omega, by omega⟩))
        · exact .inr (.inr (.inr ⟨(a - nF).toNat, by omega, by omega⟩))
      · exact .inr (.inl ⟨h, h2⟩)) with h | ⟨h0, h⟩ | ⟨k, rfl, hk⟩ | ⟨j, rfl, hj⟩
  · have BF := hid (X.out w2 B2.out).2.2
    go_wp2
    go_ret
    exact ⟨rfl, BF.out⟩
  · have BF := hid (X.out w2 B2.out).2.2
    go_wp2
    go_ret
    exact ⟨rfl, BF.out⟩
  · obtain ⟨wQ, hwQ⟩ : ∃ W, W = w2.alloc (.cells [.string p.name, .string p.cur, .int .i64 p.a.y, .int .i64 p.a.m, .int .i64 p.a.d, .int .i64 p.b.y, .int .i64 p.b.m, .int .i64 p.b.d, .slice ma p.meters.length mc, .slice fa p.fees.length fc, .slice ca p.charges.length cc, .int .i64 p.line, .int .i64 p.col].toArray 29) := ⟨_, rfl⟩
    obtain ⟨kQ, hkQ⟩ : ∃ k, k = w2.heap.size := ⟨_, rfl⟩
    have bQ : Below w2.heap.size w2 wQ := by rw [hwQ]; exact bel_alloc _ _
    have XQ0 : Box wQ kQ [.string p.name, .string p.cur, .int .i64 p.a.y, .int .i64 p.a.m, .int .i64 p.a.d, .int .i64 p.b.y, .int .i64 p.b.m, .int .i64 p.b.d, .slice ma p.meters.length mc, .slice fa p.fees.length fc, .slice ca p.charges.length cc, .int .i64 p.line, .int .i64 p.col] := by rw [hwQ, hkQ]; exact Box.new _ _ _
    have HXQ := hid XQ0
    have BQ := hid (bel_on B2.out bQ)
    have SQ := hid (show kQ < wQ.heap.size from XQ0.lt)
    have LK := hid (show kA < kQ by rw [hkQ]; exact (X.out w2 B2.out).1.lt)
    have KQ := hid (show wA.heap.size ≤ kQ by rw [hkQ]; exact B2.out.size)
    have RP := hid (range_of (X.out w2 B2.out).1.cell)
    have HWQ := hid hwQ
    have HKQ := hid hkQ
    clear bQ XQ0 hwQ hkQ c9 c10
    obtain ⟨c9, c10⟩ : w2.cell? ⟨kA, 9, none⟩ = some (.slice fa nF fc) ∧ w2.cell? ⟨kA, 10, none⟩ = some (.slice ca nC cc) := by rw [HNF.out, HNC.out]; exact ⟨(X.out w2 B2.out).1.cell 9 _ rfl, (X.out w2 B2.out).1.cell 10 _ rfl⟩
    have hk0 : (0 : Int) ≤ (k : Int) := by omega
    go_upto_region 10 with (first | (with_reducible refine wpList_load_mid (op := Oper.mk (some 44) (Op.load 29 (Operand.tmp 5)) _ _ _ _) ?_ 29 (.tmp 5) ?_ kA 0 ?_ [.string p.name, .string p.cur, .int .i64 p.a.y, .int .i64 p.a.m, .int .i64 p.a.d, .int .i64 p.b.y, .int .i64 p.b.m, .int .i64 p.b.d, .slice ma p.meters.length mc, .slice fa p.fees.length fc, .slice ca p.charges.length cc, .int .i64 p.line, .int .i64 p.col] _ RP.out Tryd.underlying29 ?_ ?_ ?_; rfl; rfl; go_simp; rfl; kernel_rfl) | (with_reducible refine wpList_store_new (op := Oper.mk none (Op.store 29 (Operand.tmp 8) (Operand.tmp 44)) _ _ _ _) ?_ 29 (.tmp 8) (.tmp 44) ?_ w2 #[.string ⟨#[]⟩, .string ⟨#[]⟩, .int .i64 0, .int .i64 0, .int .i64 0, .int .i64 0, .int .i64 0, .int .i64 0, .slice none 0 0, .slice none 0 0, .slice none 0 0, .int .i64 0, .int .i64 0] #[.string p.name, .string p.cur, .int .i64 p.a.y, .int .i64 p.a.m, .int .i64 p.a.d, .int .i64 p.b.y, .int .i64 p.b.m, .int .i64 p.b.d, .slice ma p.meters.length mc, .slice fa p.fees.length fc, .slice ca p.charges.length cc, .int .i64 p.line, .int .i64 p.col] ?_ ?_ ?_ ?_ ?_ ?_; rfl; rfl; go_simp; go_simp; kernel_rfl; rfl; (simp [Value.oneCell'])) | fail)
    rw [← HWQ.out, ← HKQ.out]
    clear HWQ RP c9 c10
    obtain ⟨c9, c10⟩ : wQ.cell? ⟨kA, 9, none⟩ = some (.slice fa nF fc) ∧ wQ.cell? ⟨kA, 10, none⟩ = some (.slice ca nC cc) := by rw [HNF.out, HNC.out]; exact ⟨(X.out wQ BQ.out).1.cell 9 _ rfl, (X.out wQ BQ.out).1.cell 10 _ rfl⟩
    obtain ⟨css, CM, LM, NM, _, AM⟩ := row_chunks (X.out wA (Below.refl _ _)).2.1.fees
    obtain ⟨bb, oo, hfa⟩ : ∃ b o, fa = some ⟨b, o, none⟩ := by
      obtain ⟨b, o, e, _⟩ := (X.out wA (Below.refl _ _)).2.1.fees.lie (fun e => by have := HNF.out; rw [e] at this; simp at this; omega)
      exact ⟨b, o, e⟩
    subst hfa
    have HAM := hid (AM _ rfl)
    have HCM := hid CM
    clear LM NM AM CM
    have hk1 : (k : Int) < (nF : Int) := by omega
    have hk2 : (k : Int) + 1 ≤ (nF : Int) := by omega
    have HOne := hid (HCM.out.ones one_fee)
    have HSz := hid HCM.out.sizes
    have HLn := hid (show css.length = nF by rw [HCM.out.len, HNF.out])
    have H1L := hid (show (css.take k).flatten.length = k * 10 by rw [fl_len (n := 10) _ (fun cs hc => HSz.out cs (List.mem_of_mem_take hc)), List.length_take, Nat.min_eq_left (by have := HLn.out; omega)])
    have H2L := hid (show (css.drop (k + 1)).flatten.length = (nF - (k + 1)) * 10 by rw [fl_len (n := 10) _ (fun cs hc => HSz.out cs (List.mem_of_mem_drop hc)), List.length_drop, HLn.out])
    have GM1 : Hid (∀ W, Below wA.heap.size wA W → ∀ ad, some (⟨bb, oo, none⟩ : Addr) = some ad → ∀ i u, (css.take k).flatten[i]? = some u → W.cell? (ad.add i) = some u) := hid fun W bw ad e i u hx => by
      have h := HAM.out i u (fl_take css k hx)
      rw [← Option.some.inj e]
      exact (bw.cell (World.block_lt_of_cell? wA _ h)).trans h
    have GM2 : Hid (∀ W, Below wA.heap.size wA W → ∀ ad, (if fc = k + 1 then some (⟨bb, oo, none⟩ : Addr) else some ⟨bb, oo + (k + 1) * 10, none⟩) = some ad → ∀ i u, (css.drop (k + 1)).flatten[i]? = some u → W.cell? (ad.add i) = some u) := hid fun W bw ad e i u hx => by
      have h := HAM.out _ u (fl_drop css HSz.out (k + 1) (by have := HLn.out; omega) hx)
      by_cases hcp : fc = k + 1
      · exfalso
        rw [List.drop_eq_nil_of_le (by have := HLn.out; omega)] at hx
        cases hx
      rw [if_neg hcp] at e
      rw [← Option.some.inj e, add_plain, Nat.add_assoc]
      rw [add_plain] at h
      exact (bw.cell (World.block_lt_of_cell? wA _ h)).trans h
    have ON1 := hid (show ∀ u ∈ (css.take k).flatten, u.oneCell' = true from fun u hu => HOne.out u (by rw [← List.take_append_drop k css, List.flatten_append]; exact List.mem_append_left _ hu))
    have ON2 := hid (show ∀ u ∈ (css.drop (k + 1)).flatten, u.oneCell' = true from fun u hu => HOne.out u (by rw [← List.take_append_drop (k + 1) css, List.flatten_append]; exact List.mem_append_right _ hu))
    have hkc : k ≤ fc := by omega
    have hkcI : (k : Int) ≤ (fc : Int) := by omega
    have hk3 : k + 1 ≤ nF := by omega
    have hkm : (k : Int) + 1 ≤ (fc : Int) := by omega
    have hk4 : (0 : Int) ≤ (k : Int) + 1 := by omega
    have hwk : IntKind.i64.wrap ((k : Int) + 1) = (k : Int) + 1 := by rw [IntKind.wrap_i64 ((k : Int) + 1)]; omega
    go_upto_region 11 with fail
    have cc0 : wQ.cell? ⟨kA, 9, none⟩ = some (.slice (some ⟨bb, oo, none⟩) nF fc) := c9
    clear c9 c10
    have BB := hid (Below.drew (Below.refl wQ.heap.size wQ))
    have KS : Hid (∀ w', Gk wQ kQ w' → w'.cell? ⟨kA, 9, none⟩ = some (.slice (some ⟨bb, oo, none⟩) nF fc) ∧ Gk wQ kQ w') := hid fun w' g => ⟨g.cell cc0 (Nat.ne_of_lt LK.out), g⟩
    clear cc0
    go_region_held_law (fun w' => w'.cell? ⟨kA, 9, none⟩ = some (.slice (some ⟨bb, oo, none⟩) nF fc) ∧ Gk wQ kQ w')
      ((first | (refine KS.out _ ?_; exact gk_of BB.out) | (refine KS.out _ ?_; exact gk_of (BB.out.alloc (Nat.le_refl _) _)) | (refine KS.out _ ?_; exact Gk.set (gk_of BB.out) _ _)))
      (first
        | (refine step_join 55 rfl rfl (.tmp 50) (.tmp 54) 26 50 _ 10 80 rfl Tryd.underlying26 info_feeJ rfl (by decide) _ 0 [] rfl (World.ownsRow_made (base := wQ.heap.size) wQ.drew #[] 0 (Nat.le_refl _) (Nat.zero_le _) rfl) (some ⟨bb, oo, none⟩) k fc (css.take k).flatten rfl H1L.out (fun e => by cases e) (GM1.out _ (bel_on BQ.out (BB.out.alloc (Nat.le_refl _) _))) ON1.out (by omega) (by decide) _ (Nat.zero_add _) (by simp) ?_
           intro aM0 cM0 wa hown hgrow
           rw [List.nil_append] at hown
           replace BB := hid (bel_join (BB.out.alloc (Nat.le_refl _) _) hgrow (fun k hk => Nat.le_of_eq (Option.some.inj hk)))
           have OW := hid hown
           clear hown hgrow)
        | (refine step_join 61 rfl rfl (.tmp 55) (.tmp 60) 26 50 _ 10 80 rfl Tryd.underlying26 info_feeJ rfl (by decide) _ k (css.take k).flatten rfl OW.out _ (nF - (k + 1)) (fc - (k + 1)) (css.drop (k + 1)).flatten rfl H2L.out (fun e => by split at e <;> cases e) (GM2.out _ (bel_on BQ.out BB.out)) ON2.out (by omega) (by decide) _ rfl BB.out.size ?_
           intro aF cF wb hown hgrow
           replace BB := hid (bel_join BB.out hgrow (fun k hk => (OW.out.lt k hk).1))
           replace OW := hid hown
           have w9 := (HXQ.out.on BB.out).cell 9 _ rfl
           have w10 := (HXQ.out.on BB.out).free 9
           clear hown hgrow))
    clear KS
    obtain ⟨wE, hwE⟩ : ∃ W, W = wb.setCell ⟨kQ, 9, none⟩ (.slice aF (k + (nF - (k + 1))) cF) := ⟨_, rfl⟩
    have XE : Box wE kQ [.string p.name, .string p.cur, .int .i64 p.a.y, .int .i64 p.a.m, .int .i64 p.a.d, .int .i64 p.b.y, .int .i64 p.b.m, .int .i64 p.b.d, .slice ma p.meters.length mc, .slice aF (k + (nF - (k + 1))) cF, .slice ca p.charges.length cc, .int .i64 p.line, .int .i64 p.col] := by rw [hwE]; exact (HXQ.out.on BB.out).set 9 _
    have BE : Below wA.heap.size wA wE := by rw [hwE]; exact (bel_on BQ.out BB.out).setCell (p := ⟨kQ, 9, none⟩) KQ.out _
    have hlen : (p.fees.eraseIdx k).length = (k + (nF - (k + 1))) := by rw [List.length_eraseIdx, if_pos (by rw [← HNF.out]; exact hk), ← HNF.out]; omega
    have RW : Row tFee wE aF (k + (nF - (k + 1))) cF (p.fees.eraseIdx k) := by
      have o2 := ownsRow_setCell_below OW.out (show (⟨kQ, 9, none⟩ : Addr).block < wQ.heap.size from SQ.out) (.slice aF (k + (nF - (k + 1))) cF)
      rw [← hwE, ← List.flatten_append] at o2
      exact own_row (T := tFee) o2 hlen.symm ((ch_less HCM.out k).on BE)
    obtain ⟨q, hq⟩ : ∃ q : Plan, q = { p with fees := p.fees.eraseIdx k } := ⟨_, rfl⟩
    have LQ : PlanLies wE (planC q ma mc aF cF ca cc) q ma mc aF cF ca cc := by
      have l0 := (X.out wE BE).2.1
      rw [hq]
      exact ⟨rfl, l0.meters, by show Row tFee wE aF (p.fees.eraseIdx k).length cF _; rw [hlen]; exact RW, l0.charges, l0.name, l0.days, l0.place⟩
    have GP := HPP.out.gd
    have SQ9 : Sh q := by
      have s0 := HSP.out
      rw [hq]
      exact sh_less_fee s0 k
    obtain ⟨T, hT⟩ : ∃ T : ByteArray, T = ⟨(planT q).toArray⟩ := ⟨_, rfl⟩
    have cT : Hid (Calls Tryd.prog 8 #[.agg #[.string p.name, .string p.cur, .int .i64 p.a.y, .int .i64 p.a.m, .int .i64 p.a.d, .int .i64 p.b.y, .int .i64 p.b.m, .int .i64 p.b.d, .slice ma p.meters.length mc, .slice aF (k + (nF - (k + 1))) cF, .slice ca p.charges.length cc, .int .i64 p.line, .int .i64 p.col]] wE fun e w' => e = .returned (.string T) ∧ Below wE.heap.size wE w') := hid (by
      have h := ref8 q ma mc aF cF ca cc wE LQ SQ9 (KZ.out.later (X.out wE BE).2.2)
      rw [show q.fees.length = (k + (nF - (k + 1))) by rw [hq]; exact hlen] at h
      rw [hq] at h
      rw [hT, hq]
      exact h)
    have hTl : T.data.toList = planT q := by rw [hT]
    have hTs : T.size = (planT q).length := by rw [hT, ba_size]
    obtain ⟨r, hr⟩ : ∃ r, r = (parsed T.data.toList).1 := ⟨_, rfl⟩
    obtain ⟨L, hL⟩ : ∃ L, L = okT T := ⟨_, rfl⟩
    have c3 := hid (fun W => of_far T W)
    rw [← hr, ← hL] at c3
    unfold planC at c3
    have P1 : Hid (L = false → 8192 < (planT p).length) := hid (fun hl => by
      rcases Nat.lt_or_ge 8192 T.size with hh | hh
      · have := text_less_fee p k
        rw [hTs, hq] at hh
        omega
      · exfalso
        have h1 := (parts_fee GP HW0.out k (t := planT q) (by rw [hq]) (by omega)).1
        rw [hL] at hl
        unfold okT at hl
        rw [hTl, h1, decide_eq_true hh] at hl
        cases hl)
    have P2 : Hid (L = true → Pl9 r ∧ wrongOf r = (0, 0, 0) ∧ ∃ A B, boundOf p = some A ∧ boundOf r = some B ∧ B ≤ A) := hid (fun hl => by
      rw [hL] at hl
      have h2 := okT_t hl
      obtain ⟨_, h3, h4⟩ := parts_fee GP HW0.out k (t := planT q) (by rw [hq]) (by have := h2.2; omega)
      rw [hr, hTl]
      exact ⟨by rw [← hTl]; exact pl9_of h2.1, h3, h4⟩)
    have RQ := hid (range_of XE.cell)
    have HXE := hid XE
    have HBE := hid BE
    have HWE := hid hwE
    clear hq hT hTl hTs hr hL SQ9 GP LQ RW hlen XE BE hwE BB OW HXQ BQ SQ HAM HCM HOne HSz HLn H1L H2L GM1 GM2 ON1 ON2 w9 w10
    generalize (if fc = k + 1 then some (⟨bb, oo, none⟩ : Addr) else some ⟨bb, oo + (k + 1) * 10, none⟩) = ZZ
    go_upto_region 14 with fail
    rw [← HWE.out]
    clear HWE
    go_wp2_with (first | (with_reducible refine wpList_load_mid (op := Oper.mk (some 82) (Op.load 29 (Operand.tmp 8)) _ _ _ _) ?_ 29 (.tmp 8) ?_ kQ 0 ?_ [.string p.name, .string p.cur, .int .i64 p.a.y, .int .i64 p.a.m, .int .i64 p.a.d, .int .i64 p.b.y, .int .i64 p.b.m, .int .i64 p.b.d, .slice ma p.meters.length mc, .slice aF (k + (nF - (k + 1))) cF, .slice ca p.charges.length cc, .int .i64 p.line, .int .i64 p.col] _ RQ.out Tryd.underlying29 ?_ ?_ ?_; rfl; rfl; go_simp; rfl; kernel_rfl) | fail)
    refine cT.out.mono ?_
    rintro e w5 ⟨rfl, b5⟩
    have X5 := hid (HXE.out.on b5)
    have B5 := hid (bel_on HBE.out b5)
    have LT5 := hid (show kQ < w5.heap.size from X5.out.lt)
    clear b5 cT RQ HXE HBE
    go_wp2_with fail
    refine (c3.out w5).mono ?_
    rintro e w6 ⟨mr, mcr, fr, fcr, cr, ccr, rfl, lr, b6, lf⟩
    have T6 := hid (there_of (X5.out.on b6).cell (X5.out.on b6).free (n := 13) rfl)
    obtain ⟨w7, hw7⟩ : ∃ W, W = w6.setCells kQ 0 [.string r.name, .string r.cur, .int .i64 r.a.y, .int .i64 r.a.m, .int .i64 r.a.d, .int .i64 r.b.y, .int .i64 r.b.m, .int .i64 r.b.d, .slice mr r.meters.length mcr, .slice fr r.fees.length fcr, .slice cr r.charges.length ccr, .int .i64 r.line, .int .i64 r.col] := ⟨_, rfl⟩
    have R7 : w7.rangeAt kQ 0 [.string r.name, .string r.cur, .int .i64 r.a.y, .int .i64 r.a.m, .int .i64 r.a.d, .int .i64 r.b.y, .int .i64 r.b.m, .int .i64 r.b.d, .slice mr r.meters.length mcr, .slice fr r.fees.length fcr, .slice cr r.charges.length ccr, .int .i64 r.line, .int .i64 r.col] := by rw [hw7]; exact World.rangeAt_setCells_same _ _ _ _ T6.out
    have L7 : PlanLies w7 (planC r mr mcr fr fcr cr ccr) r mr mcr fr fcr cr ccr := by rw [hw7]; exact lf kQ LT5.out 0 _
    have B7 : Below wA.heap.size wA w7 := by rw [hw7]; exact below_setCells KQ.out _ _ _ (bel_on B5.out b6)
    have hs7 : kQ < w7.heap.size := World.block_lt_of_cell? w7 _ (R7 0 _ rfl)
    have Y := hid (fun (W : World) (b : Below w7.heap.size w7 W) => (⟨fun j v hj => (b.cell (by show kQ < _; exact hs7)).trans (R7 j v hj), L7.on b, bel_on B7 b⟩ : W.rangeAt kQ 0 _ ∧ PlanLies W _ r mr mcr fr fcr cr ccr ∧ Below wA.heap.size wA W))
    have HW7 := hid hw7
    clear lr b6 lf hw7 R7 L7 B7 hs7 X5 B5 c3
    go_upto_region 15 with (first | (with_reducible refine wpList_store_mid (op := Oper.mk none (Op.store 29 (Operand.tmp 8) (Operand.tmp 85)) _ _ _ _) ?_ 29 (.tmp 8) (.tmp 85) ?_ kQ 0 #[.string r.name, .string r.cur, .int .i64 r.a.y, .int .i64 r.a.m, .int .i64 r.a.d, .int .i64 r.b.y, .int .i64 r.b.m, .int .i64 r.b.d, .slice mr r.meters.length mcr, .slice fr r.fees.length fcr, .slice cr r.charges.length ccr, .int .i64 r.line, .int .i64 r.col] ?_ ?_ ?_ ?_ ?_ ?_; rfl; rfl; go_simp; go_simp; (simpa using T6.out); kernel_rfl; (simp [Value.oneCell'])) | fail)
    rw [← HW7.out]
    clear HW7 T6
    have RP := hid (range_of (X.out w7 (Y.out w7 (Below.refl _ _)).2.2).1.cell)
    by_cases hL : L = false
    · have h8 := P1.out hL
      obtain ⟨Tp, hTp⟩ : ∃ T : ByteArray, T = ⟨(planT p).toArray⟩ := ⟨_, rfl⟩
      have h9 : (8192 : Int) < (Tp.size : Int) := by rw [hTp, ba_size]; omega
      have cT := hid (ref8 p ma mc (some ⟨bb, oo, none⟩) fc ca cc w7 (X.out w7 (Y.out w7 (Below.refl _ _)).2.2).2.1 HSP.out (KZ.out.later (X.out w7 (Y.out w7 (Below.refl _ _)).2.2).2.2))
      rw [← hTp] at cT
      have BF0 := hid (X.out w7 (Y.out w7 (Below.refl _ _)).2.2).2.2
      subst hL
      clear h8 hTp P1 P2
      go_wp2_with (first | (with_reducible refine wpList_load_mid (op := Oper.mk (some 89) (Op.load 29 (Operand.tmp 5)) _ _ _ _) ?_ 29 (.tmp 5) ?_ kA 0 ?_ [.string p.name, .string p.cur, .int .i64 p.a.y, .int .i64 p.a.m, .int .i64 p.a.d, .int .i64 p.b.y, .int .i64 p.b.m, .int .i64 p.b.d, .slice ma p.meters.length mc, .slice (some ⟨bb, oo, none⟩) p.fees.length fc, .slice ca p.charges.length cc, .int .i64 p.line, .int .i64 p.col] _ RP.out Tryd.underlying29 ?_ ?_ ?_; rfl; rfl; go_simp; rfl; kernel_rfl) | fail)
      refine cT.out.mono ?_
      rintro e w8 ⟨rfl, b8⟩
      have BF := hid (bel_on BF0.out b8)
      clear b8 cT RP BF0
      go_wp2
      go_ret
      exact ⟨rfl, BF.out⟩
    obtain rfl : L = true := by simpa using hL
    obtain ⟨PR, WR, A, B, hA, hB, hAB⟩ := P2.out rfl
    have CP : Chs p := chs_of HPP.out (wrongOf_zero.1 HW0.out).2.2.2.1
    have CR : Chs r := chs_of PR (wrongOf_zero.1 (by rw [WR])).2.2.2.1
    have cB1 := hid (fun (W : World) (bw : Below w7.heap.size w7 W) => Cc.bound_any p ma mc (some ⟨bb, oo, none⟩) fc ca cc W (X.out W (Y.out W bw).2.2).2.1 CP)
    have cB2 := hid (fun (W : World) (bw : Below w7.heap.size w7 W) => Cc.bound_any r mr mcr fr fcr cr ccr W (Y.out W bw).2.1 CR)
    have cR := hid (fun (W : World) (bw : Below w7.heap.size w7 W) => Cc.plan_any r mr mcr fr fcr cr ccr W (Y.out W bw).2.1 PR)
    rw [hA] at cB1
    rw [hB] at cB2
    rw [WR] at cR
    clear P1 P2 PR WR hA hB CP CR hL
    go_wp2_with (first | (with_reducible refine wpList_load_mid (op := Oper.mk (some 94) (Op.load 29 (Operand.tmp 5)) _ _ _ _) ?_ 29 (.tmp 5) ?_ kA 0 ?_ [.string p.name, .string p.cur, .int .i64 p.a.y, .int .i64 p.a.m, .int .i64 p.a.d, .int .i64 p.b.y, .int .i64 p.b.m, .int .i64 p.b.d, .slice ma p.meters.length mc, .slice (some ⟨bb, oo, none⟩) p.fees.length fc, .slice ca p.charges.length cc, .int .i64 p.line, .int .i64 p.col] _ RP.out Tryd.underlying29 ?_ ?_ ?_; rfl; rfl; go_simp; rfl; kernel_rfl) | fail)
    refine (cB1.out w7 (Below.refl _ _)).mono ?_
    rintro e w8 ⟨rfl, b8⟩
    have B8 := hid b8
    have RR := hid (Y.out w8 B8.out).1
    clear b8 cB1 RP
    go_wp2_with (first | (with_reducible refine wpList_load_mid (op := Oper.mk (some 99) (Op.load 29 (Operand.tmp 8)) _ _ _ _) ?_ 29 (.tmp 8) ?_ kQ 0 ?_ [.string r.name, .string r.cur, .int .i64 r.a.y, .int .i64 r.a.m, .int .i64 r.a.d, .int .i64 r.b.y, .int .i64 r.b.m, .int .i64 r.b.d, .slice mr r.meters.length mcr, .slice fr r.fees.length fcr, .slice cr r.charges.length ccr, .int .i64 r.line, .int .i64 r.col] _ RR.out Tryd.underlying29 ?_ ?_ ?_; rfl; rfl; go_simp; rfl; kernel_rfl) | fail)
    refine (cB2.out w8 B8.out).mono ?_
    rintro e w9 ⟨rfl, b9⟩
    have B9 := hid (bel_on B8.out b9)
    have RS := hid (Y.out w9 B9.out).1
    clear b9 cB2 RR B8
    go_wp2_with (first | (with_reducible refine wpList_load_mid (op := Oper.mk (some 103) (Op.load 29 (Operand.tmp 8)) _ _ _ _) ?_ 29 (.tmp 8) ?_ kQ 0 ?_ [.string r.name, .string r.cur, .int .i64 r.a.y, .int .i64 r.a.m, .int .i64 r.a.d, .int .i64 r.b.y, .int .i64 r.b.m, .int .i64 r.b.d, .slice mr r.meters.length mcr, .slice fr r.fees.length fcr, .slice cr r.charges.length ccr, .int .i64 r.line, .int .i64 r.col] _ RS.out Tryd.underlying29 ?_ ?_ ?_; rfl; rfl; go_simp; rfl; kernel_rfl) | fail)
    refine (cR.out w9 B9.out).mono ?_
    rintro e wz ⟨rfl, bz⟩
    have BF := hid (X.out _ (Y.out _ (bel_on B9.out bz)).2.2).2.2
    clear bz cR RS B9
    have gAB : B ≤ A := hAB
    go_wp2
    go_ret
    exact ⟨rfl, BF.out⟩
  · obtain ⟨wQ, hwQ⟩ : ∃ W, W = w2.alloc (.cells [.string p.name, .string p.cur, .int .i64 p.a.y, .int .i64 p.a.m, .int .i64 p.a.d, .int .i64 p.b.y, .int .i64 p.b.m, .int .i64 p.b.d, .slice ma p.meters.length mc, .slice fa p.fees.length fc, .slice ca p.charges.length cc, .int .i64 p.line, .int .i64 p.col].toArray 29) := ⟨_, rfl⟩
    obtain ⟨kQ, hkQ⟩ : ∃ k, k = w2.heap.size := ⟨_, rfl⟩
    have bQ : Below w2.heap.size w2 wQ := by rw [hwQ]; exact bel_alloc _ _
    have XQ0 : Box wQ kQ [.string p.name, .string p.cur, .int .i64 p.a.y, .int .i64 p.a.m, .int .i64 p.a.d, .int .i64 p.b.y, .int .i64 p.b.m, .int .i64 p.b.d, .slice ma p.meters.length mc, .slice fa p.fees.length fc, .slice ca p.charges.length cc, .int .i64 p.line, .int .i64 p.col] := by rw [hwQ, hkQ]; exact Box.new _ _ _
    have HXQ := hid XQ0
    have BQ := hid (bel_on B2.out bQ)
    have SQ := hid (show kQ < wQ.heap.size from XQ0.lt)
    have LK := hid (show kA < kQ by rw [hkQ]; exact (X.out w2 B2.out).1.lt)
    have KQ := hid (show wA.heap.size ≤ kQ by rw [hkQ]; exact B2.out.size)
    have RP := hid (range_of (X.out w2 B2.out).1.cell)
    have HWQ := hid hwQ
    have HKQ := hid hkQ
    clear bQ XQ0 hwQ hkQ c9 c10
    obtain ⟨c9, c10⟩ : w2.cell? ⟨kA, 9, none⟩ = some (.slice fa nF fc) ∧ w2.cell? ⟨kA, 10, none⟩ = some (.slice ca nC cc) := by rw [HNF.out, HNC.out]; exact ⟨(X.out w2 B2.out).1.cell 9 _ rfl, (X.out w2 B2.out).1.cell 10 _ rfl⟩
    have hk0 : (0 : Int) ≤ (j : Int) := by omega
    have hA0 : (0 : Int) ≤ (nF : Int) + (j : Int) := by omega
    have hA1 : (nF : Int) + (j : Int) < (nF : Int) + (nC : Int) := by omega
    have hA2 : (nF : Int) ≤ (nF : Int) + (j : Int) := by omega
    go_upto_region 10 with (first | (with_reducible refine wpList_load_mid (op := Oper.mk (some 44) (Op.load 29 (Operand.tmp 5)) _ _ _ _) ?_ 29 (.tmp 5) ?_ kA 0 ?_ [.string p.name, .string p.cur, .int .i64 p.a.y, .int .i64 p.a.m, .int .i64 p.a.d, .int .i64 p.b.y, .int .i64 p.b.m, .int .i64 p.b.d, .slice ma p.meters.length mc, .slice fa p.fees.length fc, .slice ca p.charges.length cc, .int .i64 p.line, .int .i64 p.col] _ RP.out Tryd.underlying29 ?_ ?_ ?_; rfl; rfl; go_simp; rfl; kernel_rfl) | (with_reducible refine wpList_store_new (op := Oper.mk none (Op.store 29 (Operand.tmp 8) (Operand.tmp 44)) _ _ _ _) ?_ 29 (.tmp 8) (.tmp 44) ?_ w2 #[.string ⟨#[]⟩, .string ⟨#[]⟩, .int .i64 0, .int .i64 0, .int .i64 0, .int .i64 0, .int .i64 0, .int .i64 0, .slice none 0 0, .slice none 0 0, .slice none 0 0, .int .i64 0, .int .i64 0] #[.string p.name, .string p.cur, .int .i64 p.a.y, .int .i64 p.a.m, .int .i64 p.a.d, .int .i64 p.b.y, .int .i64 p.b.m, .int .i64 p.b.d, .slice ma p.meters.length mc, .slice fa p.fees.length fc, .slice ca p.charges.length cc, .int .i64 p.line, .int .i64 p.col] ?_ ?_ ?_ ?_ ?_ ?_; rfl; rfl; go_simp; go_simp; kernel_rfl; rfl; (simp [Value.oneCell'])) | fail)
    rw [← HWQ.out, ← HKQ.out]
    clear HWQ RP c9 c10
    obtain ⟨c9, c10⟩ : wQ.cell? ⟨kA, 9, none⟩ = some (.slice fa nF fc) ∧ wQ.cell? ⟨kA, 10, none⟩ = some (.slice ca nC cc) := by rw [HNF.out, HNC.out]; exact ⟨(X.out wQ BQ.out).1.cell 9 _ rfl, (X.out wQ BQ.out).1.cell 10 _ rfl⟩
    obtain ⟨css, CM, LM, NM, _, AM⟩ := row_chunks (X.out wA (Below.refl _ _)).2.1.charges
    obtain ⟨bb, oo, hfa⟩ : ∃ b o, ca = some ⟨b, o, none⟩ := by
      obtain ⟨b, o, e, _⟩ := (X.out wA (Below.refl _ _)).2.1.charges.lie (fun e => by have := HNC.out; rw [e] at this; simp at this; omega)
      exact ⟨b, o, e⟩
    subst hfa
    have HAM := hid (AM _ rfl)
    have HCM := hid CM
    clear LM NM AM CM
    have hk1 : (j : Int) < (nC : Int) := by omega
    have hk2 : (j : Int) + 1 ≤ (nC : Int) := by omega
    have HOne := hid (HCM.out.ones one_charge)
    have HSz := hid HCM.out.sizes
    have HLn := hid (show css.length = nC by rw [HCM.out.len, HNC.out])
    have H1L := hid (show (css.take j).flatten.length = j * 16 by rw [fl_len (n := 16) _ (fun cs hc => HSz.out cs (List.mem_of_mem_take hc)), List.length_take, Nat.min_eq_left (by have := HLn.out; omega)])
    have H2L := hid (show (css.drop (j + 1)).flatten.length = (nC - (j + 1)) * 16 by rw [fl_len (n := 16) _ (fun cs hc => HSz.out cs (List.mem_of_mem_drop hc)), List.length_drop, HLn.out])
    have GM1 : Hid (∀ W, Below wA.heap.size wA W → ∀ ad, some (⟨bb, oo, none⟩ : Addr) = some ad → ∀ i u, (css.take j).flatten[i]? = some u → W.cell? (ad.add i) = some u) := hid fun W bw ad e i u hx => by
      have h := HAM.out i u (fl_take css j hx)
      rw [← Option.some.inj e]
      exact (bw.cell (World.block_lt_of_cell? wA _ h)).trans h
    have GM2 : Hid (∀ W, Below wA.heap.size wA W → ∀ ad, (if cc = j + 1 then some (⟨bb, oo, none⟩ : Addr) else some ⟨bb, oo + (j + 1) * 16, none⟩) = some ad → ∀ i u, (css.drop (j + 1)).flatten[i]? = some u → W.cell? (ad.add i) = some u) := hid fun W bw ad e i u hx => by
      have h := HAM.out _ u (fl_drop css HSz.out (j + 1) (by have := HLn.out; omega) hx)
      by_cases hcp : cc = j + 1
      · exfalso
        rw [List.drop_eq_nil_of_le (by have := HLn.out; omega)] at hx
        cases hx
      rw [if_neg hcp] at e
      rw [← Option.some.inj e, add_plain, Nat.add_assoc]
      rw [add_plain] at h
      exact (bw.cell (World.block_lt_of_cell? wA _ h)).trans h
    have ON1 := hid (show ∀ u ∈ (css.take j).flatten, u.oneCell' = true from fun u hu => HOne.out u (by rw [← List.take_append_drop j css, List.flatten_append]; exact List.mem_append_left _ hu))
    have ON2 := hid (show ∀ u ∈ (css.drop (j + 1)).flatten, u.oneCell' = true from fun u hu => HOne.out u (by rw [← List.take_append_drop (j + 1) css, List.flatten_append]; exact List.mem_append_right _ hu))
    have hkc : j ≤ cc := by omega
    have hkcI : (j : Int) ≤ (cc : Int) := by omega
    have hk3 : j + 1 ≤ nC := by omega
    have hkm : (j : Int) + 1 ≤ (cc : Int) := by omega
    have hk4 : (0 : Int) ≤ (j : Int) + 1 := by omega
    have hwk : IntKind.i64.wrap ((j : Int) + 1) = (j : Int) + 1 := by rw [IntKind.wrap_i64 ((j : Int) + 1)]; omega
    go_upto_region 13 with fail
    try rw [show (nF : Int) + (j : Int) - (nF : Int) = (j : Int) by omega]
    have cc0 : wQ.cell? ⟨kA, 10, none⟩ = some (.slice (some ⟨bb, oo, none⟩) nC cc) := c10
    clear c9 c10
    have BB := hid (Below.drew (Below.refl wQ.heap.size wQ))
    have KS : Hid (∀ w', Gk wQ kQ w' → w'.cell? ⟨kA, 10, none⟩ = some (.slice (some ⟨bb, oo, none⟩) nC cc) ∧ Gk wQ kQ w') := hid fun w' g => ⟨g.cell cc0 (Nat.ne_of_lt LK.out), g⟩
    clear cc0
    go_region_held_law (fun w' => w'.cell? ⟨kA, 10, none⟩ = some (.slice (some ⟨bb, oo, none⟩) nC cc) ∧ Gk wQ kQ w')
      ((first | (refine KS.out _ ?_; exact gk_of BB.out) | (refine KS.out _ ?_; exact gk_of (BB.out.alloc (Nat.le_refl _) _)) | (refine KS.out _ ?_; exact Gk.set (gk_of BB.out) _ _)))
      (first
        | (refine step_join 73 rfl rfl (.tmp 68) (.tmp 72) 27 54 _ 16 168 rfl Tryd.underlying27 info_chargeJ rfl (by decide) _ 0 [] rfl (World.ownsRow_made (base := wQ.heap.size) wQ.drew #[] 0 (Nat.le_refl _) (Nat.zero_le _) rfl) (some ⟨bb, oo, none⟩) j cc (css.take j).flatten rfl H1L.out (fun e => by cases e) (GM1.out _ (bel_on BQ.out (BB.out.alloc (Nat.le_refl _) _))) ON1.out (by omega) (by decide) _ (Nat.zero_add _) (by simp) ?_
           intro aM0 cM0 wa hown hgrow
           rw [List.nil_append] at hown
           replace BB := hid (bel_join (BB.out.alloc (Nat.le_refl _) _) hgrow (fun k hk => Nat.le_of_eq (Option.some.inj hk)))
           have OW := hid hown
           clear hown hgrow)
        | (refine step_join 79 rfl rfl (.tmp 73) (.tmp 78) 27 54 _ 16 168 rfl Tryd.underlying27 info_chargeJ rfl (by decide) _ j (css.take j).flatten rfl OW.out _ (nC - (j + 1)) (cc - (j + 1)) (css.drop (j + 1)).flatten rfl H2L.out (fun e => by split at e <;> cases e) (GM2.out _ (bel_on BQ.out BB.out)) ON2.out (by omega) (by decide) _ rfl BB.out.size ?_
           intro aF cF wb hown hgrow
           replace BB := hid (bel_join BB.out hgrow (fun k hk => (OW.out.lt k hk).1))
           replace OW := hid hown
           have w9 := (HXQ.out.on BB.out).cell 10 _ rfl
           have w10 := (HXQ.out.on BB.out).free 10
           clear hown hgrow))
    clear KS
    obtain ⟨wE, hwE⟩ : ∃ W, W = wb.setCell ⟨kQ, 10, none⟩ (.slice aF (j + (nC - (j + 1))) cF) := ⟨_, rfl⟩
    have XE : Box wE kQ [.string p.name, .string p.cur, .int .i64 p.a.y, .int .i64 p.a.m, .int .i64 p.a.d, .int .i64 p.b.y, .int .i64 p.b.m, .int .i64 p.b.d, .slice ma p.meters.length mc, .slice fa p.fees.length fc, .slice aF (j + (nC - (j + 1))) cF, .int .i64 p.line, .int .i64 p.col] := by rw [hwE]; exact (HXQ.out.on BB.out).set 10 _
    have BE : Below wA.heap.size wA wE := by rw [hwE]; exact (bel_on BQ.out BB.out).setCell (p := ⟨kQ, 10, none⟩) KQ.out _
    have hlen : (p.charges.eraseIdx j).length = (j + (nC - (j + 1))) := by rw [List.length_eraseIdx, if_pos (by rw [← HNC.out]; exact hj), ← HNC.out]; omega
    have RW : Row tCharge wE aF (j + (nC - (j + 1))) cF (p.charges.eraseIdx j) := by
      have o2 := ownsRow_setCell_below OW.out (show (⟨kQ, 10, none⟩ : Addr).block < wQ.heap.size from SQ.out) (.slice aF (j + (nC - (j + 1))) cF)
      rw [← hwE, ← List.flatten_append] at o2
      exact own_row (T := tCharge) o2 hlen.symm ((ch_less HCM.out j).on BE)
    obtain ⟨q, hq⟩ : ∃ q : Plan, q = { p with charges := p.charges.eraseIdx j } := ⟨_, rfl⟩
    have LQ : PlanLies wE (planC q ma mc fa fc aF cF) q ma mc fa fc aF cF := by
      have l0 := (X.out wE BE).2.1
      rw [hq]
      exact ⟨rfl, l0.meters, l0.fees, by show Row tCharge wE aF (p.charges.eraseIdx j).length cF _; rw [hlen]; exact RW, l0.name, l0.days, l0.place⟩
    have GP := HPP.out.gd
    have SQ9 : Sh q := by
      have s0 := HSP.out
      rw [hq]
      exact sh_less_charge s0 j
    obtain ⟨T, hT⟩ : ∃ T : ByteArray, T = ⟨(planT q).toArray⟩ := ⟨_, rfl⟩
    have cT : Hid (Calls Tryd.prog 8 #[.agg #[.string p.name, .string p.cur, .int .i64 p.a.y, .int .i64 p.a.m, .int .i64 p.a.d, .int .i64 p.b.y, .int .i64 p.b.m, .int .i64 p.b.d, .slice ma p.meters.length mc, .slice fa p.fees.length fc, .slice aF (j + (nC - (j + 1))) cF, .int .i64 p.line, .int .i64 p.col]] wE fun e w' => e = .returned (.string T) ∧ Below wE.heap.size wE w') := hid (by
      have h := ref8 q ma mc fa fc aF cF wE LQ SQ9 (KZ.out.later (X.out wE BE).2.2)
      rw [show q.charges.length = (j + (nC - (j + 1))) by rw [hq]; exact hlen] at h
      rw [hq] at h
      rw [hT, hq]
      exact h)
    have hTl : T.data.toList = planT q := by rw [hT]
    have hTs : T.size = (planT q).length := by rw [hT, ba_size]
    obtain ⟨r, hr⟩ : ∃ r, r = (parsed T.data.toList).1 := ⟨_, rfl⟩
    obtain ⟨L, hL⟩ : ∃ L, L = okT T := ⟨_, rfl⟩
    have c3 := hid (fun W => of_far T W)
    rw [← hr, ← hL] at c3
    unfold planC at c3
    have P1 : Hid (L = false → 8192 < (planT p).length) := hid (fun hl => by
      rcases Nat.lt_or_ge 8192 T.size with hh | hh
      · have := text_less_charge p j
        rw [hTs, hq] at hh
        omega
      · exfalso
        have h1 := (parts_charge GP HW0.out j (t := planT q) (by rw [hq]) (by omega)).1
        rw [hL] at hl
        unfold okT at hl
        rw [hTl, h1, decide_eq_true hh] at hl
        cases hl)
    have P2 : Hid (L = true → Pl9 r ∧ wrongOf r = (0, 0, 0) ∧ ∃ A B, boundOf p = some A ∧ boundOf r = some B ∧ B ≤ A) := hid (fun hl => by
      rw [hL] at hl
      have h2 := okT_t hl
      obtain ⟨_, h3, h4⟩ := parts_charge GP HW0.out j (t := planT q) (by rw [hq]) (by have := h2.2; omega)
      rw [hr, hTl]
      exact ⟨by rw [← hTl]; exact pl9_of h2.1, h3, h4⟩)
    have RQ := hid (range_of XE.cell)
    have HXE := hid XE
    have HBE := hid BE
    have HWE := hid hwE
    clear hq hT hTl hTs hr hL SQ9 GP LQ RW hlen XE BE hwE BB OW HXQ BQ SQ HAM HCM HOne HSz HLn H1L H2L GM1 GM2 ON1 ON2 w9 w10
    generalize (if cc = j + 1 then some (⟨bb, oo, none⟩ : Addr) else some ⟨bb, oo + (j + 1) * 16, none⟩) = ZZ
    go_upto_region 14 with fail
    rw [← HWE.out]
    clear HWE
    go_wp2_with (first | (with_reducible refine wpList_load_mid (op := Oper.mk (some 82) (Op.load 29 (Operand.tmp 8)) _ _ _ _) ?_ 29 (.tmp 8) ?_ kQ 0 ?_ [.string p.name, .string p.cur, .int .i64 p.a.y, .int .i64 p.a.m, .int .i64 p.a.d, .int .i64 p.b.y, .int .i64 p.b.m, .int .i64 p.b.d, .slice ma p.meters.length mc, .slice fa p.fees.length fc, .slice aF (j + (nC - (j + 1))) cF, .int .i64 p.line, .int .i64 p.col] _ RQ.out Tryd.underlying29 ?_ ?_ ?_; rfl; rfl; go_simp; rfl; kernel_rfl) | fail)
    refine cT.out.mono ?_
    rintro e w5 ⟨rfl, b5⟩
    have X5 := hid (HXE.out.on b5)
    have B5 := hid (bel_on HBE.out b5)
    have LT5 := hid (show kQ < w5.heap.size from X5.out.lt)
    clear b5 cT RQ HXE HBE
    go_wp2_with fail
    refine (c3.out w5).mono ?_
    rintro e w6 ⟨mr, mcr, fr, fcr, cr, ccr, rfl, lr, b6, lf⟩
    have T6 := hid (there_of (X5.out.on b6).cell (X5.out.on b6).free (n := 13) rfl)
    obtain ⟨w7, hw7⟩ : ∃ W, W = w6.setCells kQ 0 [.string r.name, .string r.cur, .int .i64 r.a.y, .int .i64 r.a.m, .int .i64 r.a.d, .int .i64 r.b.y, .int .i64 r.b.m, .int .i64 r.b.d, .slice mr r.meters.length mcr, .slice fr r.fees.length fcr, .slice cr r.charges.length ccr, .int .i64 r.line, .int .i64 r.col] := ⟨_, rfl⟩
    have R7 : w7.rangeAt kQ 0 [.string r.name, .string r.cur, .int .i64 r.a.y, .int .i64 r.a.m, .int .i64 r.a.d, .int .i64 r.b.y, .int .i64 r.b.m, .int .i64 r.b.d, .slice mr r.meters.length mcr, .slice fr r.fees.length fcr, .slice cr r.charges.length ccr, .int .i64 r.line, .int .i64 r.col] := by rw [hw7]; exact World.rangeAt_setCells_same _ _ _ _ T6.out
    have L7 : PlanLies w7 (planC r mr mcr fr fcr cr ccr) r mr mcr fr fcr cr ccr := by rw [hw7]; exact lf kQ LT5.out 0 _
    have B7 : Below wA.heap.size wA w7 := by rw [hw7]; exact below_setCells KQ.out _ _ _ (bel_on B5.out b6)
    have hs7 : kQ < w7.heap.size := World.block_lt_of_cell? w7 _ (R7 0 _ rfl)
    have Y := hid (fun (W : World) (b : Below w7.heap.size w7 W) => (⟨fun j v hj => (b.cell (by show kQ < _; exact hs7)).trans (R7 j v hj), L7.on b, bel_on B7 b⟩ : W.rangeAt kQ 0 _ ∧ PlanLies W _ r mr mcr fr fcr cr ccr ∧ Below wA.heap.size wA W))
    have HW7 := hid hw7
    clear lr b6 lf hw7 R7 L7 B7 hs7 X5 B5 c3
    go_upto_region 15 with (first | (with_reducible refine wpList_store_mid (op := Oper.mk none (Op.store 29 (Operand.tmp 8) (Operand.tmp 85)) _ _ _ _) ?_ 29 (.tmp 8) (.tmp 85) ?_ kQ 0 #[.string r.name, .string r.cur, .int .i64 r.a.y, .int .i64 r.a.m, .int .i64 r.a.d, .int .i64 r.b.y, .int .i64 r.b.m, .int .i64 r.b.d, .slice mr r.meters.length mcr, .slice fr r.fees.length fcr, .slice cr r.charges.length ccr, .int .i64 r.line, .int .i64 r.col] ?_ ?_ ?_ ?_ ?_ ?_; rfl; rfl; go_simp; go_simp; (simpa using T6.out); kernel_rfl; (simp [Value.oneCell'])) | fail)
    rw [← HW7.out]
    clear HW7 T6
    have RP := hid (range_of (X.out w7 (Y.out w7 (Below.refl _ _)).2.2).1.cell)
    by_cases hL : L = false
    · have h8 := P1.out hL
      obtain ⟨Tp, hTp⟩ : ∃ T : ByteArray, T = ⟨(planT p).toArray⟩ := ⟨_, rfl⟩
      have h9 : (8192 : Int) < (Tp.size : Int) := by rw [hTp, ba_size]; omega
      have cT := hid (ref8 p ma mc fa fc (some ⟨bb, oo, none⟩) cc w7 (X.out w7 (Y.out w7 (Below.refl _ _)).2.2).2.1 HSP.out (KZ.out.later (X.out w7 (Y.out w7 (Below.refl _ _)).2.2).2.2))
      rw [← hTp] at cT
      have BF0 := hid (X.out w7 (Y.out w7 (Below.refl _ _)).2.2).2.2
      subst hL
      clear h8 hTp P1 P2
      go_wp2_with (first | (with_reducible refine wpList_load_mid (op := Oper.mk (some 89) (Op.load 29 (Operand.tmp 5)) _ _ _ _) ?_ 29 (.tmp 5) ?_ kA 0 ?_ [.string p.name, .string p.cur, .int .i64 p.a.y, .int .i64 p.a.m, .int .i64 p.a.d, .int .i64 p.b.y, .int .i64 p.b.m, .int .i64 p.b.d, .slice ma p.meters.length mc, .slice fa p.fees.length fc, .slice (some ⟨bb, oo, none⟩) p.charges.length cc, .int .i64 p.line, .int .i64 p.col] _ RP.out Tryd.underlying29 ?_ ?_ ?_; rfl; rfl; go_simp; rfl; kernel_rfl) | fail)
      refine cT.out.mono ?_
      rintro e w8 ⟨rfl, b8⟩
      have BF := hid (bel_on BF0.out b8)
      clear b8 cT RP BF0
      go_wp2
      go_ret
      exact ⟨rfl, BF.out⟩
    obtain rfl : L = true := by simpa using hL
    obtain ⟨PR, WR, A, B, hA, hB, hAB⟩ := P2.out rfl
    have CP : Chs p := chs_of HPP.out (wrongOf_zero.1 HW0.out).2.2.2.1
    have CR : Chs r := chs_of PR (wrongOf_zero.1 (by rw [WR])).2.2.2.1
    have cB1 := hid (fun (W : World) (bw : Below w7.heap.size w7 W) => Cc.bound_any p ma mc fa fc (some ⟨bb, oo, none⟩) cc W (X.out W (Y.out W bw).2.2).2.1 CP)
    have cB2 := hid (fun (W : World) (bw : Below w7.heap.size w7 W) => Cc.bound_any r mr mcr fr fcr cr ccr W (Y.out W bw).2.1 CR)
    have cR := hid (fun (W : World) (bw : Below w7.heap.size w7 W) => Cc.plan_any r mr mcr fr fcr cr ccr W (Y.out W bw).2.1 PR)
    rw [hA] at cB1
    rw [hB] at cB2
    rw [WR] at cR
    clear P1 P2 PR WR hA hB CP CR hL
    go_wp2_with (first | (with_reducible refine wpList_load_mid (op := Oper.mk (some 94) (Op.load 29 (Operand.tmp 5)) _ _ _ _) ?_ 29 (.tmp 5) ?_ kA 0 ?_ [.string p.name, .string p.cur, .int .i64 p.a.y, .int .i64 p.a.m, .int .i64 p.a.d, .int .i64 p.b.y, .int .i64 p.b.m, .int .i64 p.b.d, .slice ma p.meters.length mc, .slice fa p.fees.length fc, .slice (some ⟨bb, oo, none⟩) p.charges.length cc, .int .i64 p.line, .int .i64 p.col] _ RP.out Tryd.underlying29 ?_ ?_ ?_; rfl; rfl; go_simp; rfl; kernel_rfl) | fail)
    refine (cB1.out w7 (Below.refl _ _)).mono ?_
    rintro e w8 ⟨rfl, b8⟩
    have B8 := hid b8
    have RR := hid (Y.out w8 B8.out).1
    clear b8 cB1 RP
    go_wp2_with (first | (with_reducible refine wpList_load_mid (op := Oper.mk (some 99) (Op.load 29 (Operand.tmp 8)) _ _ _ _) ?_ 29 (.tmp 8) ?_ kQ 0 ?_ [.string r.name, .string r.cur, .int .i64 r.a.y, .int .i64 r.a.m, .int .i64 r.a.d, .int .i64 r.b.y, .int .i64 r.b.m, .int .i64 r.b.d, .slice mr r.meters.length mcr, .slice fr r.fees.length fcr, .slice cr r.charges.length ccr, .int .i64 r.line, .int .i64 r.col] _ RR.out Tryd.underlying29 ?_ ?_ ?_; rfl; rfl; go_simp; rfl; kernel_rfl) | fail)
    refine (cB2.out w8 B8.out).mono ?_
    rintro e w9 ⟨rfl, b9⟩
    have B9 := hid (bel_on B8.out b9)
    have RS := hid (Y.out w9 B9.out).1
    clear b9 cB2 RR B8
    go_wp2_with (first | (with_reducible refine wpList_load_mid (op := Oper.mk (some 103) (Op.load 29 (Operand.tmp 8)) _ _ _ _) ?_ 29 (.tmp 8) ?_ kQ 0 ?_ [.string r.name, .string r.cur, .int .i64 r.a.y, .int .i64 r.a.m, .int .i64 r.a.d, .int .i64 r.b.y, .int .i64 r.b.m, .int .i64 r.b.d, .slice mr r.meters.length mcr, .slice fr r.fees.length fcr, .slice cr r.charges.length ccr, .int .i64 r.line, .int .i64 r.col] _ RS.out Tryd.underlying29 ?_ ?_ ?_; rfl; rfl; go_simp; rfl; kernel_rfl) | fail)
    refine (cR.out w9 B9.out).mono ?_
    rintro e wz ⟨rfl, bz⟩
    have BF := hid (X.out _ (Y.out _ (bel_on B9.out bz)).2.2).2.2
    clear bz cR RS B9
    have gAB : B ≤ A := hAB
    go_wp2
    go_ret
    exact ⟨rfl, BF.out⟩
end Go.Proofs.YtnhhhnngocdagaaDoor.L09
