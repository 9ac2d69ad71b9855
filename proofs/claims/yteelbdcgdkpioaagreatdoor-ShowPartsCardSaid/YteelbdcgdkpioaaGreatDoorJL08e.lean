/- The laws of layer 8: ShowParts. -/
import Derived.Laws.Strings3
import Derived.Test.YteelbdcgdkpioaaGreatDoorJL08d
namespace Go.Proofs.YteelbdcgdkpioaaGreatDoor.L08
open Go.RowKit Go.Sort P Mm Md Sw

/-- A plan without its rows. -/
def bareP (p : Plan) : Plan := { p with meters := [], fees := [], charges := [] }
theorem row_nil {α : Type} (T : Ty α) (w : World) : Row T w none 0 0 [] := ⟨rfl, Nat.le_refl _, Nat.zero_le _, fun h => absurd rfl h⟩
theorem row_one {α : Type} {T : Ty α} {w : World} {b : Nat} {x : α} {cs : List Value} (hb : b < w.heap.size) (hc : T.lies w cs x) (h : ∀ i v, cs[i]? = some v → w.cell? ⟨b, i, none⟩ = some v) : Row T w (some ⟨b, 0, none⟩) 1 1 [x] :=
  ⟨rfl, Nat.le_refl _, by decide, fun _ => ⟨b, 0, rfl, hb, fun j y hj => by
    cases j with
    | zero =>
      obtain rfl : x = y := by simpa using hj
      exact ⟨cs, hc, fun i v hi => by simpa using h i v hi⟩
    | succ j => simp at hj⟩⟩
theorem bare_lies {w : World} {cs : List Value} {p : Plan} {ma fa ca : Option Addr} {mc fc cc : Nat} (h : PlanLies w cs p ma mc fa fc ca cc) : PlanLies w (planC (bareP p) none 0 none 0 none 0) (bareP p) none 0 none 0 none 0 :=
  ⟨rfl, row_nil _ _, row_nil _ _, row_nil _ _, h.name, h.days, h.place⟩
theorem bare_sh {p : Plan} (h : Sh p) : Sh (bareP p) := ⟨fun _ k => (by cases k), fun _ k => (by cases k), fun _ k => (by cases k), ⟨Nat.zero_le _, Nat.zero_le _, Nat.zero_le _⟩, h.name⟩
theorem bare_text (p : Plan) : planT (bareP p) = headT8 p := by
  unfold planT bareP
  simp [headT8]
def oneM (p : Plan) (m : Meter) : Plan := { bareP p with meters := [m] }
def oneF (p : Plan) (f : Fee) : Plan := { bareP p with fees := [f] }
def oneC (p : Plan) (c : Charge) : Plan := { bareP p with charges := [c] }
theorem oneM_text (p : Plan) (m : Meter) : planT (oneM p m) = headT8 p ++ meterT m := by
  unfold planT oneM bareP
  simp [headT8]
theorem oneF_text (p : Plan) (m : Fee) : planT (oneF p m) = headT8 p ++ feeT m := by
  unfold planT oneF bareP
  simp [headT8]
theorem oneC_text (p : Plan) (m : Charge) : planT (oneC p m) = headT8 p ++ chargeT m := by
  unfold planT oneC bareP
  simp [headT8]
theorem oneM_sh {p : Plan} (h : Sh p) {m : Meter} (hm : m ∈ p.meters) : Sh (oneM p m) := ⟨fun x k => by rw [List.mem_singleton.1 k]; exact h.meters m hm, fun _ k => (by cases k), fun _ k => (by cases k), ⟨by show 1 ≤ 20000; decide, Nat.zero_le _, Nat.zero_le _⟩, h.name⟩
theorem oneF_sh {p : Plan} (h : Sh p) {m : Fee} (hm : m ∈ p.fees) : Sh (oneF p m) := ⟨fun _ k => (by cases k), fun x k => by rw [List.mem_singleton.1 k]; exact h.fees m hm, fun _ k => (by cases k), ⟨Nat.zero_le _, by show 1 ≤ 20000; decide, Nat.zero_le _⟩, h.name⟩
theorem oneC_sh {p : Plan} (h : Sh p) {m : Charge} (hm : m ∈ p.charges) : Sh (oneC p m) := ⟨fun _ k => (by cases k), fun _ k => (by cases k), fun x k => by rw [List.mem_singleton.1 k]; exact h.charges m hm, ⟨Nat.zero_le _, Nat.zero_le _, by show 1 ≤ 20000; decide⟩, h.name⟩
theorem cut_text {A B : ByteArray} {a b : List UInt8} (hA : A = ⟨a.toArray⟩) (hB : B = ⟨(a ++ b).toArray⟩) : B.extract A.size B.size = ⟨b.toArray⟩ := by
  have h1 : A.size = a.length := by rw [hA, ba_size]
  have h2 : B.size = (a ++ b).length := by rw [hB, ba_size]
  rw [Lib.extract_eq, h1, h2, hB]
  congr 1
  simp
theorem lies_far {w w' : World} {c : Charge} {ta : Option Addr} {tc : Nat} {aa : Option Addr} {ac : Nat} (h : ChargeLies w (chargeC c ta tc aa ac) c ta tc aa ac) (b : Below w.heap.size w w') : ChargeLies w' (chargeC c ta tc aa ac) c ta tc aa ac := ⟨h.cells, h.tiers.on b, h.adjusts.on b, h.meter, h.win, h.nums⟩
set_option maxHeartbeats 40000000 in
set_option maxRecDepth 100000 in
theorem parts_walk (s : ByteArray) (w : World) (k : Kz w) : Calls Tryz.prog 6 #[.string s] w fun e w' => e = .returned (.bool true) ∧ Below w.heap.size w w' := by
  have u1 := True.intro
  have cA := alive_any w k
  have K := hid k
  clear k
  by_cases hs : (8192 : Int) < (s.size : Int)
  · clear K
    go_enter Tryz.func6, Tryz.ntmps6
    go_wp2_with (go_at_call 8; refine cA.mono ?_; rintro e w1 ⟨rfl, b1⟩)
    go_ret
    exact ⟨rfl, b1⟩
  obtain ⟨p, hp⟩ : ∃ p, p = (parsed s.data.toList).1 := ⟨_, rfl⟩
  obtain ⟨x, hx⟩ : ∃ x, x = (parsed s.data.toList).2.1 := ⟨_, rfl⟩
  obtain ⟨y, hy⟩ : ∃ x, x = (parsed s.data.toList).2.2.1 := ⟨_, rfl⟩
  obtain ⟨z, hz⟩ : ∃ x, x = (parsed s.data.toList).2.2.2 := ⟨_, rfl⟩
  obtain ⟨S, hS⟩ : ∃ S : ByteArray, S = ⟨(planT p).toArray⟩ := ⟨_, rfl⟩
  have eS : S.data.toList = planT p := by rw [hS]
  have HL : Hid (x = 0 → Sh p) := hid (fun h0 => by rw [hp]; rw [hx] at h0; exact parsed_sh h0)
  have cP := fun W => R7.ref_lies s W
  rw [← hp, ← hx, ← hy, ← hz] at cP
  have CP := hid cP
  have HSS := hid hS
  clear cP hp hx hy hz hS eS
  go_enter Tryz.func6, Tryz.ntmps6
  go_wp2_with fail
  refine cA.mono ?_
  rintro e w1 ⟨rfl, b1⟩
  have BW := hid b1
  clear cA b1
  go_wp2_with fail
  refine (CP.out w1).mono ?_
  rintro e w2 ⟨ma, mc, fa, fc, ca, cc, rfl, lA, b2⟩
  obtain ⟨wA, hwA⟩ : ∃ W, W = w2.alloc (.cells #[.string p.name, .string p.cur, .int .i64 p.a.y, .int .i64 p.a.m, .int .i64 p.a.d, .int .i64 p.b.y, .int .i64 p.b.m, .int .i64 p.b.d, .slice ma p.meters.length mc, .slice fa p.fees.length fc, .slice ca p.charges.length cc, .int .i64 p.line, .int .i64 p.col] 29) := ⟨_, rfl⟩
  obtain ⟨k1, hk1⟩ : ∃ k, k = w2.heap.size := ⟨_, rfl⟩
  have bA : Below w2.heap.size w2 wA := by rw [hwA]; exact bel_alloc _ _
  have XP : Hid (R7.Bx wA k1 [.string p.name, .string p.cur, .int .i64 p.a.y, .int .i64 p.a.m, .int .i64 p.a.d, .int .i64 p.b.y, .int .i64 p.b.m, .int .i64 p.b.d, .slice ma p.meters.length mc, .slice fa p.fees.length fc, .slice ca p.charges.length cc, .int .i64 p.line, .int .i64 p.col]) := hid (by rw [hwA, hk1]; exact R7.Bx.new _ _ _)
  have LP := hid (lA.on bA)
  replace BW := hid (bel_on BW.out (bel_on b2 bA))
  have HW := hid hwA
  have HK := hid hk1
  clear CP lA b2 bA hwA hk1
  unfold planC
  go_upto_region 6 with (first
    | (with_reducible refine wpList_store_new (op := Oper.mk none (Op.store 29 (Operand.tmp 3) (Operand.tmp 27)) _ _ _ _) ?_ 29 (.tmp 3) (.tmp 27) ?_ w2 #[.string ⟨#[]⟩, .string ⟨#[]⟩, .int .i64 0, .int .i64 0, .int .i64 0, .int .i64 0, .int .i64 0, .int .i64 0, .slice none 0 0, .slice none 0 0, .slice none 0 0, .int .i64 0, .int .i64 0] #[.string p.name, .string p.cur, .int .i64 p.a.y, .int .i64 p.a.m, .int .i64 p.a.d, .int .i64 p.b.y, .int .i64 p.b.m, .int .i64 p.b.d, .slice ma p.meters.length mc, .slice fa p.fees.length fc, .slice ca p.charges.length cc, .int .i64 p.line, .int .i64 p.col] ?_ ?_ ?_ ?_ ?_ ?_; rfl; rfl; go_simp; go_simp; kernel_rfl; rfl; (simp [Value.oneCell']))
    | fail)
  rw [← HW.out, ← HK.out]
  clear HW HK
  by_cases hx0 : x = 0
  case neg =>
    clear HL
    go_wp2
    go_ret
    exact ⟨rfl, BW.out⟩
  have SHP := hid (HL.out hx0)
  subst hx0
  clear HL
  have RP : Hid (wA.rangeAt k1 0 [.string p.name, .string p.cur, .int .i64 p.a.y, .int .i64 p.a.m, .int .i64 p.a.d, .int .i64 p.b.y, .int .i64 p.b.m, .int .i64 p.b.d, .slice ma p.meters.length mc, .slice fa p.fees.length fc, .slice ca p.charges.length cc, .int .i64 p.line, .int .i64 p.col]) := hid (range_of XP.out.cell)
  obtain ⟨wB, hwB⟩ : ∃ W, W = wA.alloc (.cells #[.string p.name, .string p.cur, .int .i64 p.a.y, .int .i64 p.a.m, .int .i64 p.a.d, .int .i64 p.b.y, .int .i64 p.b.m, .int .i64 p.b.d, .slice ma p.meters.length mc, .slice fa p.fees.length fc, .slice ca p.charges.length cc, .int .i64 p.line, .int .i64 p.col] 29) := ⟨_, rfl⟩
  obtain ⟨k2, hk2⟩ : ∃ k, k = wA.heap.size := ⟨_, rfl⟩
  have bB : Below wA.heap.size wA wB := by rw [hwB]; exact bel_alloc _ _
  have XB : Box wB k2 [.string p.name, .string p.cur, .int .i64 p.a.y, .int .i64 p.a.m, .int .i64 p.a.d, .int .i64 p.b.y, .int .i64 p.b.m, .int .i64 p.b.d, .slice ma p.meters.length mc, .slice fa p.fees.length fc, .slice ca p.charges.length cc, .int .i64 p.line, .int .i64 p.col] := by rw [hwB, hk2]; exact Box.new _ _ _
  have z8 := XB.cell 8 _ rfl
  have f8 := XB.free 8
  have z9 := XB.cell 9 _ rfl
  have f9 := XB.free 9
  have z10 := XB.cell 10 _ rfl
  have f10 := XB.free 10
  obtain ⟨wC, hwC⟩ : ∃ W, W = ((wB.setCell ⟨k2, 8, none⟩ (.slice none 0 0)).setCell ⟨k2, 9, none⟩ (.slice none 0 0)).setCell ⟨k2, 10, none⟩ (.slice none 0 0) := ⟨_, rfl⟩
  have XC : Hid (Box wC k2 [.string p.name, .string p.cur, .int .i64 p.a.y, .int .i64 p.a.m, .int .i64 p.a.d, .int .i64 p.b.y, .int .i64 p.b.m, .int .i64 p.b.d, .slice none 0 0, .slice none 0 0, .slice none 0 0, .int .i64 p.line, .int .i64 p.col]) := hid (by rw [hwC]; exact ((XB.set 8 _).set 9 _).set 10 _)
  have bC : Hid (Below wA.heap.size wA wC) := hid (by rw [hwC]; exact ((bB.setCell (p := ⟨k2, 8, none⟩) (by show wA.heap.size ≤ k2; omega) _).setCell (p := ⟨k2, 9, none⟩) (by show wA.heap.size ≤ k2; omega) _).setCell (p := ⟨k2, 10, none⟩) (by show wA.heap.size ≤ k2; omega) _)
  have HW := hid hwB
  have HK := hid hk2
  have HWC := hid hwC
  clear hwB hwC hk2 bB XB
  go_upto_region 9 with (first
    | (with_reducible refine wpList_load_mid (op := Oper.mk (some 33) (Op.load 29 (Operand.tmp 3)) _ _ _ _) ?_ 29 (.tmp 3) ?_ k1 0 ?_ [.string p.name, .string p.cur, .int .i64 p.a.y, .int .i64 p.a.m, .int .i64 p.a.d, .int .i64 p.b.y, .int .i64 p.b.m, .int .i64 p.b.d, .slice ma p.meters.length mc, .slice fa p.fees.length fc, .slice ca p.charges.length cc, .int .i64 p.line, .int .i64 p.col] _ RP.out Tryz.underlying29 ?_ ?_ ?_; rfl; rfl; go_simp; rfl; kernel_rfl)
    | (with_reducible refine wpList_store_new (op := Oper.mk none (Op.store 29 (Operand.tmp 7) (Operand.tmp 33)) _ _ _ _) ?_ 29 (.tmp 7) (.tmp 33) ?_ wA #[.string ⟨#[]⟩, .string ⟨#[]⟩, .int .i64 0, .int .i64 0, .int .i64 0, .int .i64 0, .int .i64 0, .int .i64 0, .slice none 0 0, .slice none 0 0, .slice none 0 0, .int .i64 0, .int .i64 0] #[.string p.name, .string p.cur, .int .i64 p.a.y, .int .i64 p.a.m, .int .i64 p.a.d, .int .i64 p.b.y, .int .i64 p.b.m, .int .i64 p.b.d, .slice ma p.meters.length mc, .slice fa p.fees.length fc, .slice ca p.charges.length cc, .int .i64 p.line, .int .i64 p.col] ?_ ?_ ?_ ?_ ?_ ?_; rfl; rfl; go_simp; go_simp; kernel_rfl; rfl; (simp [Value.oneCell']))
    | fail)
  rw [← HW.out, ← HK.out]
  clear HW HK RP
  go_upto_region 12 with fail
  rw [← HWC.out]
  clear HWC z8 z9 z10 f8 f9 f10
  have LC := hid (LP.out.on bC.out)
  have XPC := hid (XP.out.on bC.out)
  have BC0 := hid (bel_on BW.out bC.out)
  clear BW XP LP bC
  obtain ⟨G, hG⟩ : ∃ G : ByteArray, G = ⟨(headT8 p).toArray⟩ := ⟨_, rfl⟩
  have gz : G.size ≤ 300000 := by rw [hG, ba_size]; exact headT8_len SHP.out.name
  have HG := hid hG
  have NG : Hid (Calls Tryz.prog 12 #[.agg #[.string p.name, .string p.cur, .int .i64 p.a.y, .int .i64 p.a.m, .int .i64 p.a.d, .int .i64 p.b.y, .int .i64 p.b.m, .int .i64 p.b.d, .slice none 0 0, .slice none 0 0, .slice none 0 0, .int .i64 p.line, .int .i64 p.col]] wC fun e w' => e = .returned (.string G) ∧ Below wC.heap.size wC w') := hid (by
    have := plan_any tx (bareP p) none 0 none 0 none 0 wC (bare_lies LC.out) (bare_sh SHP.out) (K.out.later BC0.out)
    rw [bare_text, ← hG] at this
    exact this)
  have R7 : Hid (∀ W, Below wC.heap.size wC W → W.rangeAt k2 0 [.string p.name, .string p.cur, .int .i64 p.a.y, .int .i64 p.a.m, .int .i64 p.a.d, .int .i64 p.b.y, .int .i64 p.b.m, .int .i64 p.b.d, .slice none 0 0, .slice none 0 0, .slice none 0 0, .int .i64 p.line, .int .i64 p.col]) := hid fun W b => range_of (XC.out.on b).cell
  have R7a : Hid (wC.rangeAt k2 0 [.string p.name, .string p.cur, .int .i64 p.a.y, .int .i64 p.a.m, .int .i64 p.a.d, .int .i64 p.b.y, .int .i64 p.b.m, .int .i64 p.b.d, .slice none 0 0, .slice none 0 0, .slice none 0 0, .int .i64 p.line, .int .i64 p.col]) := hid (range_of XC.out.cell)
  have C3 : Hid (∀ W, Below wC.heap.size wC W → W.cell? ⟨k1, 8, none⟩ = some (.slice ma p.meters.length mc) ∧ W.cell? ⟨k1, 9, none⟩ = some (.slice fa p.fees.length fc) ∧ W.cell? ⟨k1, 10, none⟩ = some (.slice ca p.charges.length cc)) := hid fun W b => ⟨(XPC.out.on b).cell 8 _ rfl, (XPC.out.on b).cell 9 _ rfl, (XPC.out.on b).cell 10 _ rfl⟩
  have R3 : Hid (∀ W, Below wC.heap.size wC W → W.rangeAt k1 0 [.string p.name, .string p.cur, .int .i64 p.a.y, .int .i64 p.a.m, .int .i64 p.a.d, .int .i64 p.b.y, .int .i64 p.b.m, .int .i64 p.b.d, .slice ma p.meters.length mc, .slice fa p.fees.length fc, .slice ca p.charges.length cc, .int .i64 p.line, .int .i64 p.col]) := hid fun W b => range_of (XPC.out.on b).cell
  clear hG
  go_upto_region 14 with (first
    | (with_reducible refine wpList_load_mid (op := Oper.mk (some 37) (Op.load 29 (Operand.tmp 7)) _ _ _ _) ?_ 29 (.tmp 7) ?_ k2 0 ?_ [.string p.name, .string p.cur, .int .i64 p.a.y, .int .i64 p.a.m, .int .i64 p.a.d, .int .i64 p.b.y, .int .i64 p.b.m, .int .i64 p.b.d, .slice none 0 0, .slice none 0 0, .slice none 0 0, .int .i64 p.line, .int .i64 p.col] _ R7a.out Tryz.underlying29 ?_ ?_ ?_; rfl; rfl; go_simp; rfl; kernel_rfl)
    | (go_at_call 12; refine NG.out.mono ?_; rintro e w4 ⟨rfl, b4⟩; have BB := hid b4; clear b4)
    | fail)
  clear R7a NG
  obtain ⟨nM, hnM⟩ : ∃ n, n = p.meters.length := ⟨_, rfl⟩
  obtain ⟨nF, hnF⟩ : ∃ n, n = p.fees.length := ⟨_, rfl⟩
  obtain ⟨nC, hnC⟩ : ∃ n, n = p.charges.length := ⟨_, rfl⟩
  have qM : nM ≤ 20000 := by rw [hnM]; exact SHP.out.cnt.1
  have qF : nF ≤ 20000 := by rw [hnF]; exact SHP.out.cnt.2.1
  have qC : nC ≤ 20000 := by rw [hnC]; exact SHP.out.cnt.2.2
  rw [← hnM, ← hnF, ← hnC] at C3
  have HnM := hid hnM
  have HnF := hid hnF
  have HnC := hid hnC
  clear hnM hnF hnC
  obtain ⟨c8, c9, c10⟩ := C3.out _ BB.out
  clear c9 c10
  go_wp2
  clear c8
  go_loopw [9, 43] (fun v i wr => ∃ (i' : Nat) (V : ByteArray), v = .string V ∧ i = .int .i64 (i' : Int) ∧ i' ≤ nM ∧ V.size ≤ 300000 + i' * 5000000 ∧ Hid (V = ⟨(headT8 p ++ (p.meters.take i').flatMap meterT).toArray⟩) ∧ Hid (Below wC.heap.size wC wr)) (fun _ i _ => nM - (intOf i).toNat)
  case atStart => exact ⟨0, G, rfl, rfl, Nat.zero_le _, by omega, hid (by rw [List.take_zero, List.flatMap_nil, List.append_nil]; exact HG.out), BB⟩
  case round =>
    obtain ⟨i', V, rfl, rfl, hi, hv, hV, hB⟩ := hrel
    clear BB
    by_cases hlt : i' < nM
    · obtain ⟨m, hti⟩ : ∃ m, p.meters[i']? = some m := ⟨_, List.getElem?_eq_getElem (by have := HnM.out; omega)⟩
      have hmem := List.mem_of_getElem? hti
      obtain ⟨b, o, e, lb, a0, a1, a2, a3, a4, mok⟩ := R6.meter_at (LC.out.meters.on hB.out) hti
      have ST : Hid ((p.meters.take (i' + 1)).flatMap meterT = (p.meters.take i').flatMap meterT ++ meterT m) := hid (flat_take hti)
      obtain ⟨Q, hQ⟩ : ∃ Q : ByteArray, Q = ⟨(headT8 p ++ meterT m).toArray⟩ := ⟨_, rfl⟩
      obtain ⟨D, hD⟩ : ∃ Q : ByteArray, Q = ⟨(meterT m).toArray⟩ := ⟨_, rfl⟩
      have zD : D.size ≤ 5000000 := by rw [hD, ba_size]; exact Nat.le_trans (meterT_len (SHP.out.meters m hmem)) (by decide)
      have zQ : Q.size = G.size + D.size := by rw [hQ, HG.out, hD, ba_size, ba_size, ba_size, List.length_append]
      have hcut := cut_text HG.out hQ
      rw [← hD] at hcut
      have hsl := fun W => (run_slice_string_from_if (P := Tryz.prog) (w := W) 9 Q .i64 (G.size : Int) Tryz.underlying9).trans (c := .ok (.string D) W) (by rw [if_pos (by omega), Int.toNat_natCast, hcut])
      have hVD : Hid (V ++ D = ⟨(headT8 p ++ (p.meters.take (i' + 1)).flatMap meterT).toArray⟩) := hid (by rw [hV.out, hD, ba_append, ST.out, List.append_assoc])
      have sVD : (V ++ D).size ≤ 300000 + (i' + 1) * 5000000 := by rw [ByteArray.size_append]; omega
      have hv2 : ¬ 9223372036854775807 < V.size + D.size := by omega
      obtain ⟨wa, hwa⟩ : ∃ W, W = wr.alloc (.cells #[.string m.name, .string m.unit, .int .i64 m.max, .int .i64 m.line, .int .i64 m.col] 44) := ⟨_, rfl⟩
      have ba : Below wr.heap.size wr wa := by rw [hwa]; exact bel_alloc _ _
      have ea : wa.heap.size = wr.heap.size + 1 := by rw [hwa]; simp
      have Xa : Box wa wr.heap.size [.string m.name, .string m.unit, .int .i64 m.max, .int .i64 m.line, .int .i64 m.col] := by rw [hwa]; exact Box.new _ _ _
      obtain ⟨wb, hwb⟩ : ∃ W, W = wa.alloc (.cells #[.string p.name, .string p.cur, .int .i64 p.a.y, .int .i64 p.a.m, .int .i64 p.a.d, .int .i64 p.b.y, .int .i64 p.b.m, .int .i64 p.b.d, .slice none 0 0, .slice none 0 0, .slice none 0 0, .int .i64 p.line, .int .i64 p.col] 29) := ⟨_, rfl⟩
      have bb : Below wa.heap.size wa wb := by rw [hwb]; exact bel_alloc _ _
      have eb : wb.heap.size = wa.heap.size + 1 := by rw [hwb]; simp
      have Xb : Box wb wa.heap.size [.string p.name, .string p.cur, .int .i64 p.a.y, .int .i64 p.a.m, .int .i64 p.a.d, .int .i64 p.b.y, .int .i64 p.b.m, .int .i64 p.b.d, .slice none 0 0, .slice none 0 0, .slice none 0 0, .int .i64 p.line, .int .i64 p.col] := by rw [hwb]; exact Box.new _ _ _
      have bc : Below wb.heap.size wb (wb.alloc (.cells #[.string m.name, .string m.unit, .int .i64 m.max, .int .i64 m.line, .int .i64 m.col] 44)) := bel_alloc _ _
      have Xc : Box (wb.alloc (.cells #[.string m.name, .string m.unit, .int .i64 m.max, .int .i64 m.line, .int .i64 m.col] 44)) wb.heap.size [.string m.name, .string m.unit, .int .i64 m.max, .int .i64 m.line, .int .i64 m.col] := Box.new _ _ _
      have Xbc := Xb.on bc
      have g8 := Xbc.cell 8 _ rfl
      have g9 := Xbc.free 8
      have h8 := Xb.cell 8 _ rfl
      have h9 := Xb.free 8
      have h10 : wa.heap.size < wb.heap.size := by omega
      obtain ⟨wd, hwd⟩ : ∃ W, W = (wb.alloc (.cells #[.string m.name, .string m.unit, .int .i64 m.max, .int .i64 m.line, .int .i64 m.col] 44)).setCell ⟨wa.heap.size, 8, none⟩ (.slice (some ⟨wb.heap.size, 0, none⟩) 1 1) := ⟨_, rfl⟩
      have Xd : Box wd wa.heap.size [.string p.name, .string p.cur, .int .i64 p.a.y, .int .i64 p.a.m, .int .i64 p.a.d, .int .i64 p.b.y, .int .i64 p.b.m, .int .i64 p.b.d, .slice (some ⟨wb.heap.size, 0, none⟩) 1 1, .slice none 0 0, .slice none 0 0, .int .i64 p.line, .int .i64 p.col] := by rw [hwd]; exact Xbc.set 8 _
      have Xe : Box wd wb.heap.size [.string m.name, .string m.unit, .int .i64 m.max, .int .i64 m.line, .int .i64 m.col] := by rw [hwd]; exact Xc.other (p := ⟨wa.heap.size, 8, none⟩) (by show wb.heap.size ≠ wa.heap.size; omega) _
      have bd : Below wr.heap.size wr wd := by rw [hwd]; exact (bel_on (bel_on ba bb) bc).setCell (p := ⟨wa.heap.size, 8, none⟩) (by show wr.heap.size ≤ wa.heap.size; omega) _
      have BD := hid (bel_on hB.out bd)
      have RB : Hid (wd.rangeAt wa.heap.size 0 [.string p.name, .string p.cur, .int .i64 p.a.y, .int .i64 p.a.m, .int .i64 p.a.d, .int .i64 p.b.y, .int .i64 p.b.m, .int .i64 p.b.d, .slice (some ⟨wb.heap.size, 0, none⟩) 1 1, .slice none 0 0, .slice none 0 0, .int .i64 p.line, .int .i64 p.col]) := hid (range_of Xd.cell)
      have R70 : Hid (wa.rangeAt k2 0 [.string p.name, .string p.cur, .int .i64 p.a.y, .int .i64 p.a.m, .int .i64 p.a.d, .int .i64 p.b.y, .int .i64 p.b.m, .int .i64 p.b.d, .slice none 0 0, .slice none 0 0, .slice none 0 0, .int .i64 p.line, .int .i64 p.col]) := hid (R7.out wa (bel_on hB.out ba))
      have RA2 : Hid (wb.rangeAt wr.heap.size 0 [.string m.name, .string m.unit, .int .i64 m.max, .int .i64 m.line, .int .i64 m.col]) := hid (range_of (Xa.on bb).cell)
      have RA0 : Hid (Box wb wr.heap.size [.string m.name, .string m.unit, .int .i64 m.max, .int .i64 m.line, .int .i64 m.col]) := hid (Xa.on bb)
      have NP : Hid (Calls Tryz.prog 12 #[.agg #[.string p.name, .string p.cur, .int .i64 p.a.y, .int .i64 p.a.m, .int .i64 p.a.d, .int .i64 p.b.y, .int .i64 p.b.m, .int .i64 p.b.d, .slice (some ⟨wb.heap.size, 0, none⟩) 1 1, .slice none 0 0, .slice none 0 0, .int .i64 p.line, .int .i64 p.col]] wd fun e w' => e = .returned (.string Q) ∧ Below wd.heap.size wd w') := hid (by
        have lw := LC.out.on BD.out
        have := plan_any tx (oneM p m) (some ⟨wb.heap.size, 0, none⟩) 1 none 0 none 0 wd ⟨rfl, row_one Xe.lt ⟨rfl, mok⟩ Xe.cell, row_nil _ _, row_nil _ _, lw.name, lw.days, lw.place⟩ (oneM_sh SHP.out hmem) (K.out.later (bel_on BC0.out BD.out))
        rw [oneM_text, ← hQ] at this
        exact this)
      have HWa := hid hwa
      have HWb := hid hwb
      rw [World.setCell_alloc_past (hn := h10)] at hwd
      have HWd := hid hwd
      clear hti hmem hQ hD hwa hwb hwd ba ea bb eb bc Xa Xb Xc Xbc Xd Xe bd hcut
      subst e
      go_upto_region 17 with fail
      rw [← HWa.out]
      clear HWa a0 a1 a2 a3 a4
      go_upto_region 18 with (first
        | (with_reducible refine wpList_load_mid (op := Oper.mk (some 47) (Op.load 29 (Operand.tmp 7)) _ _ _ _) ?_ 29 (.tmp 7) ?_ k2 0 ?_ [.string p.name, .string p.cur, .int .i64 p.a.y, .int .i64 p.a.m, .int .i64 p.a.d, .int .i64 p.b.y, .int .i64 p.b.m, .int .i64 p.b.d, .slice none 0 0, .slice none 0 0, .slice none 0 0, .int .i64 p.line, .int .i64 p.col] _ R70.out Tryz.underlying29 ?_ ?_ ?_; rfl; rfl; go_simp; rfl; kernel_rfl)
        | (with_reducible refine wpList_store_new (op := Oper.mk none (Op.store 29 (Operand.tmp 12) (Operand.tmp 47)) _ _ _ _) ?_ 29 (.tmp 12) (.tmp 47) ?_ wa #[.string ⟨#[]⟩, .string ⟨#[]⟩, .int .i64 0, .int .i64 0, .int .i64 0, .int .i64 0, .int .i64 0, .int .i64 0, .slice none 0 0, .slice none 0 0, .slice none 0 0, .int .i64 0, .int .i64 0] #[.string p.name, .string p.cur, .int .i64 p.a.y, .int .i64 p.a.m, .int .i64 p.a.d, .int .i64 p.b.y, .int .i64 p.b.m, .int .i64 p.b.d, .slice none 0 0, .slice none 0 0, .slice none 0 0, .int .i64 p.line, .int .i64 p.col] ?_ ?_ ?_ ?_ ?_ ?_; rfl; rfl; go_simp; go_simp; kernel_rfl; rfl; (simp [Value.oneCell']))
        | fail)
      rw [← HWb.out]
      clear HWb R70
      have y0 := RA0.out.cell 0 _ rfl
      have y1 := RA0.out.cell 1 _ rfl
      have y2 := RA0.out.cell 2 _ rfl
      have y3 := RA0.out.cell 3 _ rfl
      have y4 := RA0.out.cell 4 _ rfl
      go_upto_region 19 with fail
      rw [← HWd.out]
      clear HWd g8 g9 h8 h9 h10 RA2 RA0 y0 y1 y2 y3 y4
      go_wp2_with (first
        | (with_reducible refine wpList_load_mid (op := Oper.mk (some 52) (Op.load 29 (Operand.tmp 12)) _ _ _ _) ?_ 29 (.tmp 12) ?_ wa.heap.size 0 ?_ [.string p.name, .string p.cur, .int .i64 p.a.y, .int .i64 p.a.m, .int .i64 p.a.d, .int .i64 p.b.y, .int .i64 p.b.m, .int .i64 p.b.d, .slice (some ⟨wb.heap.size, 0, none⟩) 1 1, .slice none 0 0, .slice none 0 0, .int .i64 p.line, .int .i64 p.col] _ RB.out Tryz.underlying29 ?_ ?_ ?_; rfl; rfl; go_simp; rfl; kernel_rfl)
        | (go_at_call 12; refine NP.out.mono ?_; rintro e w5 ⟨rfl, b5⟩; have B5 := hid (bel_on BD.out b5); clear b5))
      go_roundw
      case rel => exact ⟨i' + 1, V ++ D, rfl, by simp, by omega, sVD, hVD, B5⟩
      case measure => simp [intOf]; omega
    · obtain rfl : i' = nM := by omega
      have BB := hB
      clear hlt hi hB
      obtain ⟨V2, hV2⟩ : ∃ X, X = V := ⟨_, rfl⟩
      obtain ⟨G2, hG2⟩ : ∃ X, X = headT8 p ++ p.meters.flatMap meterT := ⟨_, rfl⟩
      have HV2 : Hid (V2 = ⟨G2.toArray⟩) := hid (by rw [hV2, hV.out, hG2, HnM.out, List.take_length])
      have sV2 : V2.size ≤ 100000300000 := by rw [hV2]; omega
      have HG2 := hid hG2
      rw [← hV2]
      clear hV hG2 hv hV2
      obtain ⟨c8, c9, c10⟩ := C3.out _ BB.out
      clear c8 c10
      go_wp2
      clear c9
      go_loopw [9, 62] (fun v i wr => ∃ (i' : Nat) (V : ByteArray), v = .string V ∧ i = .int .i64 (i' : Int) ∧ i' ≤ nF ∧ V.size ≤ 100000300000 + i' * 5000000 ∧ Hid (V = ⟨(G2 ++ (p.fees.take i').flatMap feeT).toArray⟩) ∧ Hid (Below wC.heap.size wC wr)) (fun _ i _ => nF - (intOf i).toNat)
      case atStart => exact ⟨0, V2, rfl, rfl, Nat.zero_le _, by omega, hid (by rw [List.take_zero, List.flatMap_nil, List.append_nil]; exact HV2.out), BB⟩
      case round =>
        obtain ⟨i', V, rfl, rfl, hi, hv, hV, hB⟩ := hrel
        clear BB
        by_cases hlt : i' < nF
        · obtain ⟨f, hti⟩ : ∃ m, p.fees[i']? = some m := ⟨_, List.getElem?_eq_getElem (by have := HnF.out; omega)⟩
          have hmem := List.mem_of_getElem? hti
          obtain ⟨b, o, e, lb, a0, a1, a2, a3, a4, a5, a6, a7, a8, a9, mok⟩ := R6.fee_at (LC.out.fees.on hB.out) hti
          have ST : Hid ((p.fees.take (i' + 1)).flatMap feeT = (p.fees.take i').flatMap feeT ++ feeT f) := hid (flat_take hti)
          obtain ⟨Q, hQ⟩ : ∃ Q : ByteArray, Q = ⟨(headT8 p ++ feeT f).toArray⟩ := ⟨_, rfl⟩
          obtain ⟨D, hD⟩ : ∃ Q : ByteArray, Q = ⟨(feeT f).toArray⟩ := ⟨_, rfl⟩
          have zD : D.size ≤ 5000000 := by rw [hD, ba_size]; exact Nat.le_trans (feeT_len (SHP.out.fees f hmem)) (by decide)
          have zQ : Q.size = G.size + D.size := by rw [hQ, HG.out, hD, ba_size, ba_size, ba_size, List.length_append]
          have hcut := cut_text HG.out hQ
          rw [← hD] at hcut
          have hsl := fun W => (run_slice_string_from_if (P := Tryz.prog) (w := W) 9 Q .i64 (G.size : Int) Tryz.underlying9).trans (c := .ok (.string D) W) (by rw [if_pos (by omega), Int.toNat_natCast, hcut])
          have hVD : Hid (V ++ D = ⟨(G2 ++ (p.fees.take (i' + 1)).flatMap feeT).toArray⟩) := hid (by rw [hV.out, hD, ba_append, ST.out, List.append_assoc])
          have sVD : (V ++ D).size ≤ 100000300000 + (i' + 1) * 5000000 := by rw [ByteArray.size_append]; omega
          have hv2 : ¬ 9223372036854775807 < V.size + D.size := by omega
          obtain ⟨wa, hwa⟩ : ∃ W, W = wr.alloc (.cells #[.int .i64 f.amount, .bool f.win.has, .int .i64 f.win.a.y, .int .i64 f.win.a.m, .int .i64 f.win.a.d, .int .i64 f.win.b.y, .int .i64 f.win.b.m, .int .i64 f.win.b.d, .int .i64 f.line, .int .i64 f.col] 48) := ⟨_, rfl⟩
          have ba : Below wr.heap.size wr wa := by rw [hwa]; exact bel_alloc _ _
          have ea : wa.heap.size = wr.heap.size + 1 := by rw [hwa]; simp
          have Xa : Box wa wr.heap.size [.int .i64 f.amount, .bool f.win.has, .int .i64 f.win.a.y, .int .i64 f.win.a.m, .int .i64 f.win.a.d, .int .i64 f.win.b.y, .int .i64 f.win.b.m, .int .i64 f.win.b.d, .int .i64 f.line, .int .i64 f.col] := by rw [hwa]; exact Box.new _ _ _
          obtain ⟨wb, hwb⟩ : ∃ W, W = wa.alloc (.cells #[.string p.name, .string p.cur, .int .i64 p.a.y, .int .i64 p.a.m, .int .i64 p.a.d, .int .i64 p.b.y, .int .i64 p.b.m, .int .i64 p.b.d, .slice none 0 0, .slice none 0 0, .slice none 0 0, .int .i64 p.line, .int .i64 p.col] 29) := ⟨_, rfl⟩
          have bb : Below wa.heap.size wa wb := by rw [hwb]; exact bel_alloc _ _
          have eb : wb.heap.size = wa.heap.size + 1 := by rw [hwb]; simp
          have Xb : Box wb wa.heap.size [.string p.name, .string p.cur, .int .i64 p.a.y, .int .i64 p.a.m, .int .i64 p.a.d, .int .i64 p.b.y, .int .i64 p.b.m, .int .i64 p.b.d, .slice none 0 0, .slice none 0 0, .slice none 0 0, .int .i64 p.line, .int .i64 p.col] := by rw [hwb]; exact Box.new _ _ _
          have bc : Below wb.heap.size wb (wb.alloc (.cells #[.int .i64 f.amount, .bool f.win.has, .int .i64 f.win.a.y, .int .i64 f.win.a.m, .int .i64 f.win.a.d, .int .i64 f.win.b.y, .int .i64 f.win.b.m, .int .i64 f.win.b.d, .int .i64 f.line, .int .i64 f.col] 48)) := bel_alloc _ _
          have Xc : Box (wb.alloc (.cells #[.int .i64 f.amount, .bool f.win.has, .int .i64 f.win.a.y, .int .i64 f.win.a.m, .int .i64 f.win.a.d, .int .i64 f.win.b.y, .int .i64 f.win.b.m, .int .i64 f.win.b.d, .int .i64 f.line, .int .i64 f.col] 48)) wb.heap.size [.int .i64 f.amount, .bool f.win.has, .int .i64 f.win.a.y, .int .i64 f.win.a.m, .int .i64 f.win.a.d, .int .i64 f.win.b.y, .int .i64 f.win.b.m, .int .i64 f.win.b.d, .int .i64 f.line, .int .i64 f.col] := Box.new _ _ _
          have Xbc := Xb.on bc
          have g8 := Xbc.cell 9 _ rfl
          have g9 := Xbc.free 9
          have h8 := Xb.cell 9 _ rfl
          have h9 := Xb.free 9
          have h10 : wa.heap.size < wb.heap.size := by omega
          obtain ⟨wd, hwd⟩ : ∃ W, W = (wb.alloc (.cells #[.int .i64 f.amount, .bool f.win.has, .int .i64 f.win.a.y, .int .i64 f.win.a.m, .int .i64 f.win.a.d, .int .i64 f.win.b.y, .int .i64 f.win.b.m, .int .i64 f.win.b.d, .int .i64 f.line, .int .i64 f.col] 48)).setCell ⟨wa.heap.size, 9, none⟩ (.slice (some ⟨wb.heap.size, 0, none⟩) 1 1) := ⟨_, rfl⟩
          have Xd : Box wd wa.heap.size [.string p.name, .string p.cur, .int .i64 p.a.y, .int .i64 p.a.m, .int .i64 p.a.d, .int .i64 p.b.y, .int .i64 p.b.m, .int .i64 p.b.d, .slice none 0 0, .slice (some ⟨wb.heap.size, 0, none⟩) 1 1, .slice none 0 0, .int .i64 p.line, .int .i64 p.col] := by rw [hwd]; exact Xbc.set 9 _
          have Xe : Box wd wb.heap.size [.int .i64 f.amount, .bool f.win.has, .int .i64 f.win.a.y, .int .i64 f.win.a.m, .int .i64 f.win.a.d, .int .i64 f.win.b.y, .int .i64 f.win.b.m, .int .i64 f.win.b.d, .int .i64 f.line, .int .i64 f.col] := by rw [hwd]; exact Xc.other (p := ⟨wa.heap.size, 9, none⟩) (by show wb.heap.size ≠ wa.heap.size; omega) _
          have bd : Below wr.heap.size wr wd := by rw [hwd]; exact (bel_on (bel_on ba bb) bc).setCell (p := ⟨wa.heap.size, 9, none⟩) (by show wr.heap.size ≤ wa.heap.size; omega) _
          have BD := hid (bel_on hB.out bd)
          have RB : Hid (wd.rangeAt wa.heap.size 0 [.string p.name, .string p.cur, .int .i64 p.a.y, .int .i64 p.a.m, .int .i64 p.a.d, .int .i64 p.b.y, .int .i64 p.b.m, .int .i64 p.b.d, .slice none 0 0, .slice (some ⟨wb.heap.size, 0, none⟩) 1 1, .slice none 0 0, .int .i64 p.line, .int .i64 p.col]) := hid (range_of Xd.cell)
          have R70 : Hid (wa.rangeAt k2 0 [.string p.name, .string p.cur, .int .i64 p.a.y, .int .i64 p.a.m, .int .i64 p.a.d, .int .i64 p.b.y, .int .i64 p.b.m, .int .i64 p.b.d, .slice none 0 0, .slice none 0 0, .slice none 0 0, .int .i64 p.line, .int .i64 p.col]) := hid (R7.out wa (bel_on hB.out ba))
          have RA2 : Hid (wb.rangeAt wr.heap.size 0 [.int .i64 f.amount, .bool f.win.has, .int .i64 f.win.a.y, .int .i64 f.win.a.m, .int .i64 f.win.a.d, .int .i64 f.win.b.y, .int .i64 f.win.b.m, .int .i64 f.win.b.d, .int .i64 f.line, .int .i64 f.col]) := hid (range_of (Xa.on bb).cell)
          have RA0 : Hid (Box wb wr.heap.size [.int .i64 f.amount, .bool f.win.has, .int .i64 f.win.a.y, .int .i64 f.win.a.m, .int .i64 f.win.a.d, .int .i64 f.win.b.y, .int .i64 f.win.b.m, .int .i64 f.win.b.d, .int .i64 f.line, .int .i64 f.col]) := hid (Xa.on bb)
          have NP : Hid (Calls Tryz.prog 12 #[.agg #[.string p.name, .string p.cur, .int .i64 p.a.y, .int .i64 p.a.m, .int .i64 p.a.d, .int .i64 p.b.y, .int .i64 p.b.m, .int .i64 p.b.d, .slice none 0 0, .slice (some ⟨wb.heap.size, 0, none⟩) 1 1, .slice none 0 0, .int .i64 p.line, .int .i64 p.col]] wd fun e w' => e = .returned (.string Q) ∧ Below wd.heap.size wd w') := hid (by
            have lw := LC.out.on BD.out
            have := plan_any tx (oneF p f) none 0 (some ⟨wb.heap.size, 0, none⟩) 1 none 0 wd ⟨rfl, row_nil _ _, row_one Xe.lt ⟨rfl, mok⟩ Xe.cell, row_nil _ _, lw.name, lw.days, lw.place⟩ (oneF_sh SHP.out hmem) (K.out.later (bel_on BC0.out BD.out))
            rw [oneF_text, ← hQ] at this
            exact this)
          have HWa := hid hwa
          have HWb := hid hwb
          rw [World.setCell_alloc_past (hn := h10)] at hwd
          have HWd := hid hwd
          clear hti hmem hQ hD hwa hwb hwd ba ea bb eb bc Xa Xb Xc Xbc Xd Xe bd hcut
          subst e
          go_upto_region 24 with fail
          rw [← HWa.out]
          clear HWa a0 a1 a2 a3 a4 a5 a6 a7 a8 a9
          go_upto_region 25 with (first
            | (with_reducible refine wpList_load_mid (op := Oper.mk (some 66) (Op.load 29 (Operand.tmp 7)) _ _ _ _) ?_ 29 (.tmp 7) ?_ k2 0 ?_ [.string p.name, .string p.cur, .int .i64 p.a.y, .int .i64 p.a.m, .int .i64 p.a.d, .int .i64 p.b.y, .int .i64 p.b.m, .int .i64 p.b.d, .slice none 0 0, .slice none 0 0, .slice none 0 0, .int .i64 p.line, .int .i64 p.col] _ R70.out Tryz.underlying29 ?_ ?_ ?_; rfl; rfl; go_simp; rfl; kernel_rfl)
            | (with_reducible refine wpList_store_new (op := Oper.mk none (Op.store 29 (Operand.tmp 15) (Operand.tmp 66)) _ _ _ _) ?_ 29 (.tmp 15) (.tmp 66) ?_ wa #[.string ⟨#[]⟩, .string ⟨#[]⟩, .int .i64 0, .int .i64 0, .int .i64 0, .int .i64 0, .int .i64 0, .int .i64 0, .slice none 0 0, .slice none 0 0, .slice none 0 0, .int .i64 0, .int .i64 0] #[.string p.name, .string p.cur, .int .i64 p.a.y, .int .i64 p.a.m, .int .i64 p.a.d, .int .i64 p.b.y, .int .i64 p.b.m, .int .i64 p.b.d, .slice none 0 0, .slice none 0 0, .slice none 0 0, .int .i64 p.line, .int .i64 p.col] ?_ ?_ ?_ ?_ ?_ ?_; rfl; rfl; go_simp; go_simp; kernel_rfl; rfl; (simp [Value.oneCell']))
            | fail)
          rw [← HWb.out]
          clear HWb R70
          have y0 := RA0.out.cell 0 _ rfl
          have y1 := RA0.out.cell 1 _ rfl
          have y2 := RA0.out.cell 2 _ rfl
          have y3 := RA0.out.cell 3 _ rfl
          have y4 := RA0.out.cell 4 _ rfl
          have y5 := RA0.out.cell 5 _ rfl
          have y6 := RA0.out.cell 6 _ rfl
          have y7 := RA0.out.cell 7 _ rfl
          have y8 := RA0.out.cell 8 _ rfl
          have y9 := RA0.out.cell 9 _ rfl
          go_upto_region 26 with fail
          rw [← HWd.out]
          clear HWd g8 g9 h8 h9 h10 RA2 RA0 y0 y1 y2 y3 y4 y5 y6 y7 y8 y9
          go_wp2_with (first
            | (with_reducible refine wpList_load_mid (op := Oper.mk (some 71) (Op.load 29 (Operand.tmp 15)) _ _ _ _) ?_ 29 (.tmp 15) ?_ wa.heap.size 0 ?_ [.string p.name, .string p.cur, .int .i64 p.a.y, .int .i64 p.a.m, .int .i64 p.a.d, .int .i64 p.b.y, .int .i64 p.b.m, .int .i64 p.b.d, .slice none 0 0, .slice (some ⟨wb.heap.size, 0, none⟩) 1 1, .slice none 0 0, .int .i64 p.line, .int .i64 p.col] _ RB.out Tryz.underlying29 ?_ ?_ ?_; rfl; rfl; go_simp; rfl; kernel_rfl)
            | (go_at_call 12; refine NP.out.mono ?_; rintro e w5 ⟨rfl, b5⟩; have B5 := hid (bel_on BD.out b5); clear b5))
          go_roundw
          case rel => exact ⟨i' + 1, V ++ D, rfl, by simp, by omega, sVD, hVD, B5⟩
          case measure => simp [intOf]; omega
        · obtain rfl : i' = nF := by omega
          have BB := hB
          clear hlt hi hB
          obtain ⟨V3, hV3⟩ : ∃ X, X = V := ⟨_, rfl⟩
          obtain ⟨G3, hG3⟩ : ∃ X, X = G2 ++ p.fees.flatMap feeT := ⟨_, rfl⟩
          have HV3 : Hid (V3 = ⟨G3.toArray⟩) := hid (by rw [hV3, hV.out, hG3, HnF.out, List.take_length])
          have sV3 : V3.size ≤ 200000300000 := by rw [hV3]; omega
          have HG3 := hid hG3
          rw [← hV3]
          clear hV hG3 hv hV3
          obtain ⟨c8, c9, c10⟩ := C3.out _ BB.out
          clear c8 c9
          go_wp2
          clear c10
          go_loopw [9, 81] (fun v i wr => ∃ (i' : Nat) (V : ByteArray), v = .string V ∧ i = .int .i64 (i' : Int) ∧ i' ≤ nC ∧ V.size ≤ 200000300000 + i' * 5000000 ∧ Hid (V = ⟨(G3 ++ (p.charges.take i').flatMap chargeT).toArray⟩) ∧ Hid (Below wC.heap.size wC wr)) (fun _ i _ => nC - (intOf i).toNat)
          case atStart => exact ⟨0, V3, rfl, rfl, Nat.zero_le _, by omega, hid (by rw [List.take_zero, List.flatMap_nil, List.append_nil]; exact HV3.out), BB⟩
          case round =>
            obtain ⟨i', V, rfl, rfl, hi, hv, hV, hB⟩ := hrel
            clear BB
            by_cases hlt : i' < nC
            · obtain ⟨c, hti⟩ : ∃ m, p.charges[i']? = some m := ⟨_, List.getElem?_eq_getElem (by have := HnC.out; omega)⟩
              have hmem := List.mem_of_getElem? hti
              obtain ⟨b, o, ta, tc, aa, ac, e, ax, lx0⟩ := R6.charge_at (LC.out.charges.on hB.out) hti
              have r1 := hid (range_at ax)
              unfold chargeC at r1
              have ST : Hid ((p.charges.take (i' + 1)).flatMap chargeT = (p.charges.take i').flatMap chargeT ++ chargeT c) := hid (flat_take hti)
              obtain ⟨Q, hQ⟩ : ∃ Q : ByteArray, Q = ⟨(headT8 p ++ chargeT c).toArray⟩ := ⟨_, rfl⟩
              obtain ⟨D, hD⟩ : ∃ Q : ByteArray, Q = ⟨(chargeT c).toArray⟩ := ⟨_, rfl⟩
              have zD : D.size ≤ 5000000 := by rw [hD, ba_size]; exact Nat.le_trans (chargeT_len (SHP.out.charges c hmem)) (by decide)
              have zQ : Q.size = G.size + D.size := by rw [hQ, HG.out, hD, ba_size, ba_size, ba_size, List.length_append]
              have hcut := cut_text HG.out hQ
              rw [← hD] at hcut
              have hsl := fun W => (run_slice_string_from_if (P := Tryz.prog) (w := W) 9 Q .i64 (G.size : Int) Tryz.underlying9).trans (c := .ok (.string D) W) (by rw [if_pos (by omega), Int.toNat_natCast, hcut])
              have hVD : Hid (V ++ D = ⟨(G3 ++ (p.charges.take (i' + 1)).flatMap chargeT).toArray⟩) := hid (by rw [hV.out, hD, ba_append, ST.out, List.append_assoc])
              have sVD : (V ++ D).size ≤ 200000300000 + (i' + 1) * 5000000 := by rw [ByteArray.size_append]; omega
              have hv2 : ¬ 9223372036854775807 < V.size + D.size := by omega
              obtain ⟨wa, hwa⟩ : ∃ W, W = wr.alloc (.cells #[.string c.meter, .bool c.win.has, .int .i64 c.win.a.y, .int .i64 c.win.a.m, .int .i64 c.win.a.d, .int .i64 c.win.b.y, .int .i64 c.win.b.m, .int .i64 c.win.b.d, .int .i64 c.allowance, .int .i64 c.block, .int .i64 c.kind, .slice ta c.tiers.length tc, .int .i64 c.mode, .slice aa c.adjusts.length ac, .int .i64 c.line, .int .i64 c.col] 52) := ⟨_, rfl⟩
              have ba : Below wr.heap.size wr wa := by rw [hwa]; exact bel_alloc _ _
              have ea : wa.heap.size = wr.heap.size + 1 := by rw [hwa]; simp
              have Xa : Box wa wr.heap.size [.string c.meter, .bool c.win.has, .int .i64 c.win.a.y, .int .i64 c.win.a.m, .int .i64 c.win.a.d, .int .i64 c.win.b.y, .int .i64 c.win.b.m, .int .i64 c.win.b.d, .int .i64 c.allowance, .int .i64 c.block, .int .i64 c.kind, .slice ta c.tiers.length tc, .int .i64 c.mode, .slice aa c.adjusts.length ac, .int .i64 c.line, .int .i64 c.col] := by rw [hwa]; exact Box.new _ _ _
              obtain ⟨wb, hwb⟩ : ∃ W, W = wa.alloc (.cells #[.string p.name, .string p.cur, .int .i64 p.a.y, .int .i64 p.a.m, .int .i64 p.a.d, .int .i64 p.b.y, .int .i64 p.b.m, .int .i64 p.b.d, .slice none 0 0, .slice none 0 0, .slice none 0 0, .int .i64 p.line, .int .i64 p.col] 29) := ⟨_, rfl⟩
              have bb : Below wa.heap.size wa wb := by rw [hwb]; exact bel_alloc _ _
              have eb : wb.heap.size = wa.heap.size + 1 := by rw [hwb]; simp
              have Xb : Box wb wa.heap.size [.string p.name, .string p.cur, .int .i64 p.a.y, .int .i64 p.a.m, .int .i64 p.a.d, .int .i64 p.b.y, .int .i64 p.b.m, .int .i64 p.b.d, .slice none 0 0, .slice none 0 0, .slice none 0 0, .int .i64 p.line, .int .i64 p.col] := by rw [hwb]; exact Box.new _ _ _
              have bc : Below wb.heap.size wb (wb.alloc (.cells #[.string c.meter, .bool c.win.has, .int .i64 c.win.a.y, .int .i64 c.win.a.m, .int .i64 c.win.a.d, .int .i64 c.win.b.y, .int .i64 c.win.b.m, .int .i64 c.win.b.d, .int .i64 c.allowance, .int .i64 c.block, .int .i64 c.kind, .slice ta c.tiers.length tc, .int .i64 c.mode, .slice aa c.adjusts.length ac, .int .i64 c.line, .int .i64 c.col] 52)) := bel_alloc _ _
              have Xc : Box (wb.alloc (.cells #[.string c.meter, .bool c.win.has, .int .i64 c.win.a.y, .int .i64 c.win.a.m, .int .i64 c.win.a.d, .int .i64 c.win.b.y, .int .i64 c.win.b.m, .int .i64 c.win.b.d, .int .i64 c.allowance, .int .i64 c.block, .int .i64 c.kind, .slice ta c.tiers.length tc, .int .i64 c.mode, .slice aa c.adjusts.length ac, .int .i64 c.line, .int .i64 c.col] 52)) wb.heap.size [.string c.meter, .bool c.win.has, .int .i64 c.win.a.y, .int .i64 c.win.a.m, .int .i64 c.win.a.d, .int .i64 c.win.b.y, .int .i64 c.win.b.m, .int .i64 c.win.b.d, .int .i64 c.allowance, .int .i64 c.block, .int .i64 c.kind, .slice ta c.tiers.length tc, .int .i64 c.mode, .slice aa c.adjusts.length ac, .int .i64 c.line, .int .i64 c.col] := Box.new _ _ _
              have Xbc := Xb.on bc
              have g8 := Xbc.cell 10 _ rfl
              have g9 := Xbc.free 10
              have h8 := Xb.cell 10 _ rfl
              have h9 := Xb.free 10
              have h10 : wa.heap.size < wb.heap.size := by omega
              obtain ⟨wd, hwd⟩ : ∃ W, W = (wb.alloc (.cells #[.string c.meter, .bool c.win.has, .int .i64 c.win.a.y, .int .i64 c.win.a.m, .int .i64 c.win.a.d, .int .i64 c.win.b.y, .int .i64 c.win.b.m, .int .i64 c.win.b.d, .int .i64 c.allowance, .int .i64 c.block, .int .i64 c.kind, .slice ta c.tiers.length tc, .int .i64 c.mode, .slice aa c.adjusts.length ac, .int .i64 c.line, .int .i64 c.col] 52)).setCell ⟨wa.heap.size, 10, none⟩ (.slice (some ⟨wb.heap.size, 0, none⟩) 1 1) := ⟨_, rfl⟩
              have Xd : Box wd wa.heap.size [.string p.name, .string p.cur, .int .i64 p.a.y, .int .i64 p.a.m, .int .i64 p.a.d, .int .i64 p.b.y, .int .i64 p.b.m, .int .i64 p.b.d, .slice none 0 0, .slice none 0 0, .slice (some ⟨wb.heap.size, 0, none⟩) 1 1, .int .i64 p.line, .int .i64 p.col] := by rw [hwd]; exact Xbc.set 10 _
              have Xe : Box wd wb.heap.size [.string c.meter, .bool c.win.has, .int .i64 c.win.a.y, .int .i64 c.win.a.m, .int .i64 c.win.a.d, .int .i64 c.win.b.y, .int .i64 c.win.b.m, .int .i64 c.win.b.d, .int .i64 c.allowance, .int .i64 c.block, .int .i64 c.kind, .slice ta c.tiers.length tc, .int .i64 c.mode, .slice aa c.adjusts.length ac, .int .i64 c.line, .int .i64 c.col] := by rw [hwd]; exact Xc.other (p := ⟨wa.heap.size, 10, none⟩) (by show wb.heap.size ≠ wa.heap.size; omega) _
              have bd : Below wr.heap.size wr wd := by rw [hwd]; exact (bel_on (bel_on ba bb) bc).setCell (p := ⟨wa.heap.size, 10, none⟩) (by show wr.heap.size ≤ wa.heap.size; omega) _
              have BD := hid (bel_on hB.out bd)
              have RB : Hid (wd.rangeAt wa.heap.size 0 [.string p.name, .string p.cur, .int .i64 p.a.y, .int .i64 p.a.m, .int .i64 p.a.d, .int .i64 p.b.y, .int .i64 p.b.m, .int .i64 p.b.d, .slice none 0 0, .slice none 0 0, .slice (some ⟨wb.heap.size, 0, none⟩) 1 1, .int .i64 p.line, .int .i64 p.col]) := hid (range_of Xd.cell)
              have R70 : Hid (wa.rangeAt k2 0 [.string p.name, .string p.cur, .int .i64 p.a.y, .int .i64 p.a.m, .int .i64 p.a.d, .int .i64 p.b.y, .int .i64 p.b.m, .int .i64 p.b.d, .slice none 0 0, .slice none 0 0, .slice none 0 0, .int .i64 p.line, .int .i64 p.col]) := hid (R7.out wa (bel_on hB.out ba))
              have RA2 : Hid (wb.rangeAt wr.heap.size 0 [.string c.meter, .bool c.win.has, .int .i64 c.win.a.y, .int .i64 c.win.a.m, .int .i64 c.win.a.d, .int .i64 c.win.b.y, .int .i64 c.win.b.m, .int .i64 c.win.b.d, .int .i64 c.allowance, .int .i64 c.block, .int .i64 c.kind, .slice ta c.tiers.length tc, .int .i64 c.mode, .slice aa c.adjusts.length ac, .int .i64 c.line, .int .i64 c.col]) := hid (range_of (Xa.on bb).cell)
              have RA0 : Hid (Box wb wr.heap.size [.string c.meter, .bool c.win.has, .int .i64 c.win.a.y, .int .i64 c.win.a.m, .int .i64 c.win.a.d, .int .i64 c.win.b.y, .int .i64 c.win.b.m, .int .i64 c.win.b.d, .int .i64 c.allowance, .int .i64 c.block, .int .i64 c.kind, .slice ta c.tiers.length tc, .int .i64 c.mode, .slice aa c.adjusts.length ac, .int .i64 c.line, .int .i64 c.col]) := hid (Xa.on bb)
              have NP : Hid (Calls Tryz.prog 12 #[.agg #[.string p.name, .string p.cur, .int .i64 p.a.y, .int .i64 p.a.m, .int .i64 p.a.d, .int .i64 p.b.y, .int .i64 p.b.m, .int .i64 p.b.d, .slice none 0 0, .slice none 0 0, .slice (some ⟨wb.heap.size, 0, none⟩) 1 1, .int .i64 p.line, .int .i64 p.col]] wd fun e w' => e = .returned (.string Q) ∧ Below wd.heap.size wd w') := hid (by
                have lw := LC.out.on BD.out
                have := plan_any tx (oneC p c) none 0 none 0 (some ⟨wb.heap.size, 0, none⟩) 1 wd ⟨rfl, row_nil _ _, row_nil _ _, row_one (T := tCharge) Xe.lt ⟨ta, tc, aa, ac, lies_far lx0 bd⟩ Xe.cell, lw.name, lw.days, lw.place⟩ (oneC_sh SHP.out hmem) (K.out.later (bel_on BC0.out BD.out))
                rw [oneC_text, ← hQ] at this
                exact this)
              have HWa := hid hwa
              have HWb := hid hwb
              rw [World.setCell_alloc_past (hn := h10)] at hwd
              have HWd := hid hwd
              clear hti hmem hQ hD hwa hwb hwd ba ea bb eb bc Xa Xb Xc Xbc Xd Xe bd hcut
              subst e
              go_upto_region 31 with (first | (with_reducible refine wpList_load_mid (op := Oper.mk (some 84) (Op.load 52 (Operand.tmp 83)) _ _ _ _) ?_ 52 (.tmp 83) ?_ b (o + i' * 16) ?_ [.string c.meter, .bool c.win.has, .int .i64 c.win.a.y, .int .i64 c.win.a.m, .int .i64 c.win.a.d, .int .i64 c.win.b.y, .int .i64 c.win.b.m, .int .i64 c.win.b.d, .int .i64 c.allowance, .int .i64 c.block, .int .i64 c.kind, .slice ta c.tiers.length tc, .int .i64 c.mode, .slice aa c.adjusts.length ac, .int .i64 c.line, .int .i64 c.col] _ r1.out Tryz.underlying52 ?_ ?_ ?_; rfl; rfl; go_simp; rfl; kernel_rfl) | (with_reducible refine wpList_store_new (op := Oper.mk none (Op.store 52 (Operand.tmp 17) (Operand.tmp 84)) _ _ _ _) ?_ 52 (.tmp 17) (.tmp 84) ?_ wr _ #[.string c.meter, .bool c.win.has, .int .i64 c.win.a.y, .int .i64 c.win.a.m, .int .i64 c.win.a.d, .int .i64 c.win.b.y, .int .i64 c.win.b.m, .int .i64 c.win.b.d, .int .i64 c.allowance, .int .i64 c.block, .int .i64 c.kind, .slice ta c.tiers.length tc, .int .i64 c.mode, .slice aa c.adjusts.length ac, .int .i64 c.line, .int .i64 c.col] ?_ ?_ ?_ ?_ ?_ ?_; rfl; rfl; go_simp; go_simp; kernel_rfl; rfl; (simp [Value.oneCell'])) | fail)
              rw [← HWa.out]
              clear HWa r1 ax lx0
              go_upto_region 32 with (first
                | (with_reducible refine wpList_load_mid (op := Oper.mk (some 85) (Op.load 29 (Operand.tmp 7)) _ _ _ _) ?_ 29 (.tmp 7) ?_ k2 0 ?_ [.string p.name, .string p.cur, .int .i64 p.a.y, .int .i64 p.a.m, .int .i64 p.a.d, .int .i64 p.b.y, .int .i64 p.b.m, .int .i64 p.b.d, .slice none 0 0, .slice none 0 0, .slice none 0 0, .int .i64 p.line, .int .i64 p.col] _ R70.out Tryz.underlying29 ?_ ?_ ?_; rfl; rfl; go_simp; rfl; kernel_rfl)
                | (with_reducible refine wpList_store_new (op := Oper.mk none (Op.store 29 (Operand.tmp 18) (Operand.tmp 85)) _ _ _ _) ?_ 29 (.tmp 18) (.tmp 85) ?_ wa #[.string ⟨#[]⟩, .string ⟨#[]⟩, .int .i64 0, .int .i64 0, .int .i64 0, .int .i64 0, .int .i64 0, .int .i64 0, .slice none 0 0, .slice none 0 0, .slice none 0 0, .int .i64 0, .int .i64 0] #[.string p.name, .string p.cur, .int .i64 p.a.y, .int .i64 p.a.m, .int .i64 p.a.d, .int .i64 p.b.y, .int .i64 p.b.m, .int .i64 p.b.d, .slice none 0 0, .slice none 0 0, .slice none 0 0, .int .i64 p.line, .int .i64 p.col] ?_ ?_ ?_ ?_ ?_ ?_; rfl; rfl; go_simp; go_simp; kernel_rfl; rfl; (simp [Value.oneCell']))
                | fail)
              rw [← HWb.out]
              clear HWb R70
              go_upto_region 33 with (first | (with_reducible refine wpList_load_mid (op := Oper.mk (some 86) (Op.load 52 (Operand.tmp 17)) _ _ _ _) ?_ 52 (.tmp 17) ?_ wr.heap.size 0 ?_ [.string c.meter, .bool c.win.has, .int .i64 c.win.a.y, .int .i64 c.win.a.m, .int .i64 c.win.a.d, .int .i64 c.win.b.y, .int .i64 c.win.b.m, .int .i64 c.win.b.d, .int .i64 c.allowance, .int .i64 c.block, .int .i64 c.kind, .slice ta c.tiers.length tc, .int .i64 c.mode, .slice aa c.adjusts.length ac, .int .i64 c.line, .int .i64 c.col] _ RA2.out Tryz.underlying52 ?_ ?_ ?_; rfl; rfl; go_simp; rfl; kernel_rfl) | fail)
              rw [← HWd.out]
              clear HWd g8 g9 h8 h9 h10 RA2 RA0 
              go_wp2_with (first
                | (with_reducible refine wpList_load_mid (op := Oper.mk (some 90) (Op.load 29 (Operand.tmp 18)) _ _ _ _) ?_ 29 (.tmp 18) ?_ wa.heap.size 0 ?_ [.string p.name, .string p.cur, .int .i64 p.a.y, .int .i64 p.a.m, .int .i64 p.a.d, .int .i64 p.b.y, .int .i64 p.b.m, .int .i64 p.b.d, .slice none 0 0, .slice none 0 0, .slice (some ⟨wb.heap.size, 0, none⟩) 1 1, .int .i64 p.line, .int .i64 p.col] _ RB.out Tryz.underlying29 ?_ ?_ ?_; rfl; rfl; go_simp; rfl; kernel_rfl)
                | (go_at_call 12; refine NP.out.mono ?_; rintro e w5 ⟨rfl, b5⟩; have B5 := hid (bel_on BD.out b5); clear b5))
              go_roundw
              case rel => exact ⟨i' + 1, V ++ D, rfl, by simp, by omega, sVD, hVD, B5⟩
              case measure => simp [intOf]; omega
            · obtain rfl : i' = nC := by omega
              have BB := hB
              clear hlt hi hB
              have hVS : V = ⟨(planT p).toArray⟩ := by rw [hV.out, HG3.out, HG2.out, HnC.out, List.take_length]; rfl
              have NF : Hid (Calls Tryz.prog 12 #[.agg #[.string p.name, .string p.cur, .int .i64 p.a.y, .int .i64 p.a.m, .int .i64 p.a.d, .int .i64 p.b.y, .int .i64 p.b.m, .int .i64 p.b.d, .slice ma p.meters.length mc, .slice fa p.fees.length fc, .slice ca p.charges.length cc, .int .i64 p.line, .int .i64 p.col]] wr fun e w' => e = .returned (.string V) ∧ Below wr.heap.size wr w') := hid (by
                have := plan_any tx p ma mc fa fc ca cc wr (LC.out.on BB.out) SHP.out (K.out.later (bel_on BC0.out BB.out))
                rw [← hVS] at this
                exact this)
              have RZ : Hid (wr.rangeAt k1 0 [.string p.name, .string p.cur, .int .i64 p.a.y, .int .i64 p.a.m, .int .i64 p.a.d, .int .i64 p.b.y, .int .i64 p.b.m, .int .i64 p.b.d, .slice ma p.meters.length mc, .slice fa p.fees.length fc, .slice ca p.charges.length cc, .int .i64 p.line, .int .i64 p.col]) := hid (R3.out wr BB.out)
              have BF := hid (bel_on BC0.out BB.out)
              clear hV hVS hv
              go_wp2_with (first
                | (with_reducible refine wpList_load_mid (op := Oper.mk (some 98) (Op.load 29 (Operand.tmp 3)) _ _ _ _) ?_ 29 (.tmp 3) ?_ k1 0 ?_ [.string p.name, .string p.cur, .int .i64 p.a.y, .int .i64 p.a.m, .int .i64 p.a.d, .int .i64 p.b.y, .int .i64 p.b.m, .int .i64 p.b.d, .slice ma p.meters.length mc, .slice fa p.fees.length fc, .slice ca p.charges.length cc, .int .i64 p.line, .int .i64 p.col] _ RZ.out Tryz.underlying29 ?_ ?_ ?_; rfl; rfl; go_simp; rfl; kernel_rfl)
                | (go_at_call 12; refine NF.out.mono ?_; rintro e w5 ⟨rfl, b5⟩; replace BF := hid (bel_on BF.out b5); clear b5))
              go_ret
              exact ⟨rfl, BF.out⟩
end Go.Proofs.YteelbdcgdkpioaaGreatDoor.L08
