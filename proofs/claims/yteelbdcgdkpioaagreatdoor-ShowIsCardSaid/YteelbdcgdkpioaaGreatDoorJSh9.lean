/- Package show, walked: a plan's text. -/
import Derived.Test.YteelbdcgdkpioaaGreatDoorJMid
namespace Go.Proofs.YteelbdcgdkpioaaGreatDoor.Sw
open Go.RowKit Go.Sort P Mm Md

theorem range_at {W : World} {b o : Nat} {x : Charge} {ta : Option Addr} {tc : Nat} {aa : Option Addr} {ac : Nat} (h : R6.ChargeAt W b o x ta tc aa ac) : W.rangeAt b o (chargeC x ta tc aa ac) := by
  obtain ⟨_, a0, a1, a2, a3, a4, a5, a6, a7, a8, a9, a10, a11, a12, a13, a14, a15⟩ := h
  intro j v hj
  match j, hj with
  | 0, hj => cases hj; exact a0
  | 1, hj => cases hj; exact a1
  | 2, hj => cases hj; exact a2
  | 3, hj => cases hj; exact a3
  | 4, hj => cases hj; exact a4
  | 5, hj => cases hj; exact a5
  | 6, hj => cases hj; exact a6
  | 7, hj => cases hj; exact a7
  | 8, hj => cases hj; exact a8
  | 9, hj => cases hj; exact a9
  | 10, hj => cases hj; exact a10
  | 11, hj => cases hj; exact a11
  | 12, hj => cases hj; exact a12
  | 13, hj => cases hj; exact a13
  | 14, hj => cases hj; exact a14
  | 15, hj => cases hj; exact a15
  | j + 16, hj => cases hj
theorem headT8_len {p : Plan} (h : p.name.size ≤ 100000 ∧ p.cur.size ≤ 100000) : (headT8 p).length ≤ 300000 := by
  have h1 := dayT_len p.a
  have h2 := dayT_len p.b
  unfold headT8
  rw [List.length_append, tellT_len, tellT_len, join4, join3]
  simp only [List.length_append, List.length_cons, List.length_nil, size_list, wPlan, wCurrency, wHorizon]
  omega
theorem planT_ne (p : Plan) : planT p ≠ [] := by
  intro e
  have := congrArg List.length e
  unfold planT headT8 at this
  simp only [List.length_append, tellT_len, List.length_nil] at this
  omega
section
variable {K : World → Prop} (T : Tx K)
include T
set_option maxHeartbeats 40000000 in
set_option maxRecDepth 100000 in
theorem plan_any (p : Plan) (ma : Option Addr) (mc : Nat) (fa : Option Addr) (fc : Nat) (ca : Option Addr) (cc : Nat) (w : World) (hp : PlanLies w (planC p ma mc fa fc ca cc) p ma mc fa fc ca cc) (sp : Sh p) (hK : K w) :
    Calls Tryz.prog 12 #[.agg (planC p ma mc fa fc ca cc).toArray] w fun e w' => e = .returned (.string ⟨(planT p).toArray⟩) ∧ Below w.heap.size w w' := by
  have zH := headT8_len sp.name
  obtain ⟨w1, hw1⟩ : ∃ W, W = w.alloc (.cells (planC p ma mc fa fc ca cc).toArray 29) := ⟨_, rfl⟩
  have b1 : Below w.heap.size w w1 := by rw [hw1]; exact bel_alloc _ _
  have e1 : w1.heap.size = w.heap.size + 1 := by rw [hw1]; simp
  have hb1 : w1.heap[w.heap.size]? = some (.cells (planC p ma mc fa fc ca cc).toArray 29 (0, 0)) := by rw [hw1]; exact aC_heap _ _ _
  obtain ⟨w2, hw2⟩ : ∃ W, W = w1.alloc (.cells #[.pointer none, .slice none 0 0, .int .i64 0] 75) := ⟨_, rfl⟩
  have b2 : Below w1.heap.size w1 w2 := by rw [hw2]; exact bel_alloc _ _
  have hb2 : w2.heap[w.heap.size + 1]? = some (.cells #[.pointer none, .slice none 0 0, .int .i64 0] 75 (0, 0)) := by rw [hw2, ← e1]; exact aC_heap _ _ _
  have hp2 : w2.heap[w.heap.size]? = some (.cells (planC p ma mc fa fc ca cc).toArray 29 (0, 0)) := (b2.block _ (by omega)).trans hb1
  obtain ⟨k, hk⟩ : ∃ k, k = w.heap.size + 1 := ⟨_, rfl⟩
  have hkn : w.heap.size ≠ k := by omega
  have O2 : Hid (Ow w w2 k [] 0) := hid ⟨⟨by omega, .pointer none, .slice none 0 0, by rw [hk]; exact hb2, .inl rfl, World.ownsRow_nil .., by simp [Value.ownBlock]⟩, bel_on b1 b2⟩
  have eW : w2 = (w.alloc (.cells (planC p ma mc fa fc ca cc).toArray 29)).alloc (.cells #[.pointer none, .slice none 0 0, .int .i64 0] 75) := by rw [hw2, hw1]
  have PS : Hid (∀ w', Kp w.heap.size k w2 w' → w'.heap[w.heap.size]? = some (.cells (planC p ma mc fa fc ca cc).toArray 29 (0, 0))) := hid fun w' g => g.at hp2 hkn (by decide)
  have PCs : Hid (∀ w', Kp w.heap.size k w2 w' → ∀ i v, (planC p ma mc fa fc ca cc)[i]? = some v → w'.cell? ⟨w.heap.size, i, none⟩ = some v) := hid fun w' g i v hv => by rw [cell_of (PS.out w' g)]; simpa using hv
  obtain ⟨X, hX⟩ : ∃ S : ByteArray, S = ⟨(dayT p.a).toArray⟩ := ⟨_, rfl⟩
  have zX : X.size ≤ 10 := by rw [hX, ba_size]; exact dayT_len _
  have NX : Hid (∀ W, Below w.heap.size w W → Calls Tryz.prog 26 #[.agg #[.int .i64 p.a.y, .int .i64 p.a.m, .int .i64 p.a.d]] W fun e w' => e = .returned (.string X) ∧ Below W.heap.size W w') := hid fun W b => by rw [hX]; exact T.day p.a W (T.keep hK b)
  obtain ⟨Y, hY⟩ : ∃ S : ByteArray, S = ⟨(dayT p.b).toArray⟩ := ⟨_, rfl⟩
  have zY : Y.size ≤ 10 := by rw [hY, ba_size]; exact dayT_len _
  have NY : Hid (∀ W, Below w.heap.size w W → Calls Tryz.prog 26 #[.agg #[.int .i64 p.b.y, .int .i64 p.b.m, .int .i64 p.b.d]] W fun e w' => e = .returned (.string Y) ∧ Below W.heap.size W w') := hid fun W b => by rw [hY]; exact T.day p.b W (T.keep hK b)
  have EH : Hid (headT8 p = tellT 0 ([(⟨#[112, 108, 97, 110]⟩ : ByteArray), p.name, (⟨#[99, 117, 114, 114, 101, 110, 99, 121]⟩ : ByteArray), p.cur].map (·.data.toList)) ++ tellT 0 ([(⟨#[104, 111, 114, 105, 122, 111, 110]⟩ : ByteArray), X, Y].map (·.data.toList))) := hid (by rw [hX, hY]; rfl)
  have EM : Hid (∀ m ∈ p.meters, ∃ S : ByteArray, S.size ≤ 20 ∧ meterT m = tellT 0 ([(⟨#[109, 101, 116, 101, 114]⟩ : ByteArray), m.name, (⟨#[117, 110, 105, 116]⟩ : ByteArray), m.unit, (⟨#[109, 97, 120]⟩ : ByteArray), S].map (·.data.toList)) ∧ ∀ W, Below w.heap.size w W → Calls Tryz.prog 27 #[.int .i64 m.max] W fun e w' => e = .returned (.string S) ∧ Below W.heap.size W w') := hid fun m hm => ⟨⟨(nmbT m.max).toArray⟩, by rw [ba_size]; exact nmbT_len (sp.meters m hm).2.2, rfl, fun W b => T.itoa m.max W (T.keep hK b) (sp.meters m hm).2.1 (sp.meters m hm).2.2⟩
  have EF : Hid (∀ f ∈ p.fees, ∃ S Z : ByteArray, S.size ≤ 20 ∧ Z.size ≤ 30 ∧ feeT f = tellT 0 ([(⟨#[102, 101, 101]⟩ : ByteArray), S ++ Z].map (·.data.toList)) ∧ (∀ W, Below w.heap.size w W → Calls Tryz.prog 27 #[.int .i64 f.amount] W fun e w' => e = .returned (.string S) ∧ Below W.heap.size W w') ∧ ∀ W, Below w.heap.size w W → Calls Tryz.prog 28 #[.agg #[.bool f.win.has, .int .i64 f.win.a.y, .int .i64 f.win.a.m, .int .i64 f.win.a.d, .int .i64 f.win.b.y, .int .i64 f.win.b.m, .int .i64 f.win.b.d]] W fun e w' => e = .returned (.string Z) ∧ Below W.heap.size W w') := hid fun f hf => ⟨⟨(nmbT f.amount).toArray⟩, ⟨(winT f.win).toArray⟩, by rw [ba_size]; exact nmbT_len (sp.fees f hf).1.2, by rw [ba_size]; exact winT_len _, by rw [ba_append]; rfl, fun W b => T.itoa f.amount W (T.keep hK b) (sp.fees f hf).1.1 (sp.fees f hf).1.2, fun W b => window_any T f.win W (T.keep hK b)⟩
  have EC : Hid (∀ c ∈ p.charges, ∀ ta tc aa ac W l, ChargeLies w (chargeC c ta tc aa ac) c ta tc aa ac → Ow w W k l 0 → l.length + 200000000 ≤ 140737488355328 → Calls Tryz.prog 29 #[.pointer (some ⟨k, 0, none⟩), .agg (chargeC c ta tc aa ac).toArray] W fun e w' => e = .returned (.tuple #[]) ∧ Ow w w' k (l ++ chargeT c) 0 ∧ Kp w.heap.size k W w') := hid fun c hc ta tc aa ac W l cl o hl => charge_any T c ta tc aa ac cl (sp.charges c hc) o hK hl
  have HM := hid hp.meters
  have HF := hid hp.fees
  have HC := hid hp.charges
  have LM : Hid (∀ i, ((p.meters.take i).flatMap meterT).length ≤ 10000000000) := hid fun i => by have := take_flat_len (f := meterT) (n := 300000) p.meters (fun m hm => meterT_len (sp.meters m hm)) i; have := sp.cnt.1; omega
  have LF : Hid (∀ i, ((p.fees.take i).flatMap feeT).length ≤ 10000000000) := hid fun i => by have := take_flat_len (f := feeT) (n := 300000) p.fees (fun m hm => feeT_len (sp.fees m hm)) i; have := sp.cnt.2.1; omega
  have LC : Hid (∀ i, ((p.charges.take i).flatMap chargeT).length ≤ 100000000000) := hid fun i => by have := take_flat_len (f := chargeT) (n := 5000000) p.charges (fun m hm => chargeT_len (sp.charges m hm)) i; have := sp.cnt.2.2; omega
  have MS : Hid (∀ m ∈ p.meters, m.name.size ≤ 100000 ∧ m.unit.size ≤ 100000) := hid fun m hm => (sp.meters m hm).1
  have nm1 := sp.name.1
  have nm2 := sp.name.2
  obtain ⟨nM, hnM⟩ : ∃ n, n = p.meters.length := ⟨_, rfl⟩
  obtain ⟨nF, hnF⟩ : ∃ n, n = p.fees.length := ⟨_, rfl⟩
  obtain ⟨nC, hnC⟩ : ∃ n, n = p.charges.length := ⟨_, rfl⟩
  have qM : nM ≤ 20000 := by rw [hnM]; exact sp.cnt.1
  have qF : nF ≤ 20000 := by rw [hnF]; exact sp.cnt.2.1
  have qC : nC ≤ 20000 := by rw [hnC]; exact sp.cnt.2.2
  obtain ⟨G, hG⟩ : ∃ G, G = headT8 p := ⟨_, rfl⟩
  obtain ⟨R, hR⟩ : ∃ R, R = planT p := ⟨_, rfl⟩
  have ER : Hid (R = G ++ p.meters.flatMap meterT ++ p.fees.flatMap feeT ++ p.charges.flatMap chargeT) := hid (by rw [hR, hG]; rfl)
  have NR : Hid (R ≠ []) := hid (by rw [hR]; exact planT_ne p)
  have ZG : Hid (G.length ≤ 300000) := hid (by rw [hG]; exact zH)
  rw [← hR]
  rw [← hG] at EH
  have HnM := hid hnM
  have HnF := hid hnF
  have HnC := hid hnC
  have HW := hid eW
  have PX : Hid (∀ w', Kp w.heap.size k w2 w' → w'.cell? ⟨w.heap.size, 0, none⟩ = some (.string p.name) ∧ w'.cell? ⟨w.heap.size, 1, none⟩ = some (.string p.cur) ∧ w'.cell? ⟨w.heap.size, 2, none⟩ = some (.int .i64 p.a.y) ∧ w'.cell? ⟨w.heap.size, 3, none⟩ = some (.int .i64 p.a.m) ∧ w'.cell? ⟨w.heap.size, 4, none⟩ = some (.int .i64 p.a.d) ∧ w'.cell? ⟨w.heap.size, 5, none⟩ = some (.int .i64 p.b.y) ∧ w'.cell? ⟨w.heap.size, 6, none⟩ = some (.int .i64 p.b.m) ∧ w'.cell? ⟨w.heap.size, 7, none⟩ = some (.int .i64 p.b.d) ∧ w'.cell? ⟨w.heap.size, 8, none⟩ = some (.slice ma nM mc) ∧ w'.cell? ⟨w.heap.size, 9, none⟩ = some (.slice fa nF fc) ∧ w'.cell? ⟨w.heap.size, 10, none⟩ = some (.slice ca nC cc)) := hid fun w' g => ⟨PCs.out w' g 0 _ rfl, PCs.out w' g 1 _ rfl, PCs.out w' g 2 _ rfl, PCs.out w' g 3 _ rfl, PCs.out w' g 4 _ rfl, PCs.out w' g 5 _ rfl, PCs.out w' g 6 _ rfl, PCs.out w' g 7 _ rfl, by rw [hnM]; exact PCs.out w' g 8 _ rfl, by rw [hnF]; exact PCs.out w' g 9 _ rfl, by rw [hnC]; exact PCs.out w' g 10 _ rfl⟩
  have HK := hid hk
  unfold planC at HW ⊢
  clear hw1 b1 e1 hb1 hw2 b2 hb2 hp2 eW hX hY hnM hnF hnC hG hR zH hp sp hK T PS PCs hk
  go_enter Tryz.func12, Tryz.ntmps12
  go_upto_region 2 with fail
  rw [← HW.out, ← HK.out]
  clear HW
  obtain ⟨c0, c1, c2, c3, c4, c5, c6, c7, c8, c9, c10⟩ := PX.out w2 (Kp.refl _ k w2)
  clear c2 c3 c4 c5 c6 c7 c8 c9 c10
  go_upto_region 3 with (go_at_call 25; refine (tell_new [(⟨#[112, 108, 97, 110]⟩ : ByteArray), p.name, (⟨#[99, 117, 114, 114, 101, 110, 99, 121]⟩ : ByteArray), p.cur] O2.out.wr (by decide) (by show 4 ≤ 100; decide) (by rw [jl4]; show 0 + (4 + p.name.size + 8 + p.cur.size + 3) + 300 ≤ _; omega)).mono ?_; rintro e w3 ⟨rfl, q, kp⟩; have O3 := hid (O2.out.put q kp); have K3 := hid kp; clear q kp)
  clear c0 c1 O2
  have OO := hid (O3.out.on (Below.drew (Below.refl _ _)))
  have KK := hid (K3.out.trans (Kp.of (Below.drew (Below.refl _ _)) O3.out.wr.size))
  clear O3 K3
  have KS : Hid (∀ w', Kp w.heap.size k w2 w' → w'.cell? ⟨w.heap.size, 2, none⟩ = some (.int .i64 p.a.y) ∧ w'.cell? ⟨w.heap.size, 3, none⟩ = some (.int .i64 p.a.m) ∧ w'.cell? ⟨w.heap.size, 4, none⟩ = some (.int .i64 p.a.d) ∧ w'.cell? ⟨w.heap.size, 5, none⟩ = some (.int .i64 p.b.y) ∧ w'.cell? ⟨w.heap.size, 6, none⟩ = some (.int .i64 p.b.m) ∧ w'.cell? ⟨w.heap.size, 7, none⟩ = some (.int .i64 p.b.d) ∧ Kp w.heap.size k w2 w') := hid fun w' g => by obtain ⟨_, _, c2, c3, c4, c5, c6, c7, _, _, _⟩ := PX.out w' g; exact ⟨c2, c3, c4, c5, c6, c7, g⟩
  go_region_held_law (fun w' => w'.cell? ⟨w.heap.size, 2, none⟩ = some (.int .i64 p.a.y) ∧ w'.cell? ⟨w.heap.size, 3, none⟩ = some (.int .i64 p.a.m) ∧ w'.cell? ⟨w.heap.size, 4, none⟩ = some (.int .i64 p.a.d) ∧ w'.cell? ⟨w.heap.size, 5, none⟩ = some (.int .i64 p.b.y) ∧ w'.cell? ⟨w.heap.size, 6, none⟩ = some (.int .i64 p.b.m) ∧ w'.cell? ⟨w.heap.size, 7, none⟩ = some (.int .i64 p.b.d) ∧ Kp w.heap.size k w2 w')
    ((first | (refine KS.out _ ?_; exact KK.out) | (refine KS.out _ ?_; exact KK.out.trans (Kp.of (bel_alloc _ _) OO.out.wr.size))))
    (first
      | (go_at_call_of 26 (Value.agg #[Value.int IntKind.i64 p.a.y, Value.int IntKind.i64 p.a.m, Value.int IntKind.i64 p.a.d])
         refine (NX.out _ OO.out.bel).mono ?_
         rintro e w' ⟨rfl, b⟩
         replace KK := hid (KK.out.trans (Kp.of b OO.out.wr.size))
         replace OO := hid (OO.out.on b)
         clear b)
      | (go_at_call 26
         refine (NY.out _ OO.out.bel).mono ?_
         rintro e w' ⟨rfl, b⟩
         replace KK := hid (KK.out.trans (Kp.of b OO.out.wr.size))
         replace OO := hid (OO.out.on b)
         clear b)
      | (go_at_call 25
         refine (tell_new [(⟨#[104, 111, 114, 105, 122, 111, 110]⟩ : ByteArray), X, Y] OO.out.wr (by decide) (by show 3 ≤ 100; decide) (by rw [jl3, List.nil_append, tellT_len, jl4]; show 0 + (4 + p.name.size + 8 + p.cur.size + 3) + 2 + (7 + X.size + Y.size + 2) + 300 ≤ _; omega)).mono ?_
         rintro e w' ⟨rfl, q, kp⟩
         rw [List.nil_append, ← EH.out] at q
         replace OO := hid (OO.out.put q kp)
         replace KK := hid (KK.out.trans kp)
         clear q kp))
  all_goals
    clear KS NX NY zX zY EH nm1 nm2
    obtain ⟨c0, c1, c2, c3, c4, c5, c6, c7, c8, c9, c10⟩ := PX.out _ KK.out
    clear c0 c1 c2 c3 c4 c5 c6 c7 c9 c10
    go_wp2
    clear c8
    go_loopw [27] (fun i wr => ∃ i' : Nat, i = .int .i64 (i' : Int) ∧ i' ≤ nM ∧ Hid (Ow w wr k (G ++ (p.meters.take i').flatMap meterT) 0) ∧ Hid (Kp w.heap.size k w2 wr)) (fun i _ => nM - (intOf i).toNat)
  all_goals first
    | (show ∃ _, _
       exact ⟨0, rfl, Nat.zero_le _, hid (by rw [List.take_zero, List.flatMap_nil, List.append_nil]; exact OO.out), KK⟩)
    | skip
  all_goals
    obtain ⟨i', rfl, hi, hh, hk⟩ := hrel
    clear OO KK
    by_cases hlt : i' < nM
    · obtain ⟨m, hti⟩ : ∃ m, p.meters[i']? = some m := ⟨_, List.getElem?_eq_getElem (by have := HnM.out; omega)⟩
      have hmem := List.mem_of_getElem? hti
      obtain ⟨b, o, e, lb, a0, a1, a2, a3, a4, _⟩ := R6.meter_at (HM.out.on hh.out.bel) hti
      obtain ⟨S, zS, hET, hNI⟩ := EM.out m hmem
      have ET := hid hET
      have NI := hid hNI
      have ms := MS.out m hmem
      clear hET hNI
      have ST : Hid ((p.meters.take (i' + 1)).flatMap meterT = (p.meters.take i').flatMap meterT ++ meterT m) := hid (flat_take hti)
      have hlen : (G ++ (p.meters.take i').flatMap meterT).length ≤ 100000000000000 := by
        have := LM.out i'
        have := ZG.out
        simp only [List.length_append]
        omega
      have HL := hid hlen
      obtain ⟨w1, hw1⟩ : ∃ W, W = wr.alloc (.cells #[.string m.name, .string m.unit, .int .i64 m.max, .int .i64 m.line, .int .i64 m.col] 44) := ⟨_, rfl⟩
      have b1 : Below wr.heap.size wr w1 := by rw [hw1]; exact bel_alloc _ _
      have hb1 : w1.heap[wr.heap.size]? = some (.cells #[.string m.name, .string m.unit, .int .i64 m.max, .int .i64 m.line, .int .i64 m.col] 44 (0, 0)) := by rw [hw1]; exact aC_heap _ _ _
      have O1 := hid (hh.out.on b1)
      have K1 := hid (hk.out.trans (Kp.of b1 hh.out.wr.size))
      have hkr := hh.out.wr.lt
      have HW := hid hw1
      have KS : Hid (∀ w', Kp w.heap.size k w1 w' → w'.cell? ⟨wr.heap.size, 0, none⟩ = some (.string m.name) ∧ w'.cell? ⟨wr.heap.size, 1, none⟩ = some (.string m.unit) ∧ w'.cell? ⟨wr.heap.size, 2, none⟩ = some (.int .i64 m.max) ∧ Kp w.heap.size k w1 w') := hid fun w' g => by
        have := g.at hb1 (Nat.ne_of_gt hkr) (by decide)
        exact ⟨by rw [cell_of this]; rfl, by rw [cell_of this]; rfl, by rw [cell_of this]; rfl, g⟩
      clear hti hw1 b1 hb1 hlen hmem hkr
      subst e
      go_upto_region 7 with fail
      rw [← HW.out]
      clear HW a0 a1 a2 a3 a4
      have OO := hid (O1.out.on (Below.drew (Below.refl _ _)))
      have KK : Hid (Kp w.heap.size k w1 w1.drew) := hid (Kp.of (Below.drew (Below.refl _ _)) O1.out.wr.size)
      clear O1
      go_region_held_law (fun w' => w'.cell? ⟨wr.heap.size, 0, none⟩ = some (.string m.name) ∧ w'.cell? ⟨wr.heap.size, 1, none⟩ = some (.string m.unit) ∧ w'.cell? ⟨wr.heap.size, 2, none⟩ = some (.int .i64 m.max) ∧ Kp w.heap.size k w1 w')
        ((first | (refine KS.out _ ?_; exact KK.out) | (refine KS.out _ ?_; exact KK.out.trans (Kp.of (bel_alloc _ _) OO.out.wr.size))))
        (first
          | (go_at_call 27
             refine (NI.out _ OO.out.bel).mono ?_
             rintro e w' ⟨rfl, b⟩
             replace KK := hid (KK.out.trans (Kp.of b OO.out.wr.size))
             replace OO := hid (OO.out.on b)
             clear b)
          | (go_at_call 25
             refine (tell_new [(⟨#[109, 101, 116, 101, 114]⟩ : ByteArray), m.name, (⟨#[117, 110, 105, 116]⟩ : ByteArray), m.unit, (⟨#[109, 97, 120]⟩ : ByteArray), S] OO.out.wr (by decide) (by show 6 ≤ 100; decide) (by rw [jl6]; show _ + (5 + m.name.size + 4 + m.unit.size + 3 + S.size + 5) + 300 ≤ _; have := HL.out; omega)).mono ?_
             rintro e w' ⟨rfl, q, kp⟩
             rw [← ET.out] at q
             replace OO := hid (OO.out.put q kp)
             replace KK := hid (KK.out.trans kp)
             clear q kp))
      all_goals
        go_wp2
        go_roundw
        case rel => exact ⟨i' + 1, by simp, by omega, hid (by rw [ST.out, ← List.append_assoc]; exact OO.out), hid (K1.out.trans KK.out)⟩
        case measure => simp [intOf]; omega
    · obtain rfl : i' = nM := by omega
      have OO := hh
      have KK := hk
      clear hh hk hlt hi
      obtain ⟨c0, c1, c2, c3, c4, c5, c6, c7, c8, c9, c10⟩ := PX.out _ KK.out
      clear c0 c1 c2 c3 c4 c5 c6 c7 c8 c10
      go_wp2
      clear c9
      obtain ⟨G2, hG2⟩ : ∃ G2, G2 = G ++ (p.meters.take i').flatMap meterT := ⟨_, rfl⟩
      rw [← hG2] at OO
      have ZG2 : Hid (G2.length ≤ 20000000000) := hid (by rw [hG2, List.length_append]; have := ZG.out; have := LM.out i'; omega)
      have EG2 : Hid (G2 = G ++ p.meters.flatMap meterT) := hid (by rw [hG2, HnM.out, List.take_length])
      clear hG2 ZG LM EM MS HM
      go_loopw [44] (fun i wr => ∃ i' : Nat, i = .int .i64 (i' : Int) ∧ i' ≤ nF ∧ Hid (Ow w wr k (G2 ++ (p.fees.take i').flatMap feeT) 0) ∧ Hid (Kp w.heap.size k w2 wr)) (fun i _ => nF - (intOf i).toNat)
      case atStart => exact ⟨0, rfl, Nat.zero_le _, hid (by rw [List.take_zero, List.flatMap_nil, List.append_nil]; exact OO.out), KK⟩
      case round =>
        obtain ⟨i2, rfl, hi, hh, hk⟩ := hrel
        clear OO KK
        by_cases hlt : i2 < nF
        · obtain ⟨f, hti⟩ : ∃ m, p.fees[i2]? = some m := ⟨_, List.getElem?_eq_getElem (by have := HnF.out; omega)⟩
          have hmem := List.mem_of_getElem? hti
          obtain ⟨b, o, e, lb, a0, a1, a2, a3, a4, a5, a6, a7, a8, a9, _⟩ := R6.fee_at (HF.out.on hh.out.bel) hti
          obtain ⟨S, Z, zS, zZ, hET, hNI, hNV⟩ := EF.out f hmem
          have ET := hid hET
          have NI := hid hNI
          have NV := hid hNV
          have zSZ : (S ++ Z).size = S.size + Z.size := ByteArray.size_append
          have s1 : ¬ (9223372036854775807 < S.size + Z.size) := by omega
          clear hET hNI hNV
          have ST : Hid ((p.fees.take (i2 + 1)).flatMap feeT = (p.fees.take i2).flatMap feeT ++ feeT f) := hid (flat_take hti)
          have hlen : (G2 ++ (p.fees.take i2).flatMap feeT).length ≤ 100000000000000 := by
            have := LF.out i2
            have := ZG2.out
            simp only [List.length_append]
            omega
          have HL := hid hlen
          obtain ⟨w1, hw1⟩ : ∃ W, W = wr.alloc (.cells #[.int .i64 f.amount, .bool f.win.has, .int .i64 f.win.a.y, .int .i64 f.win.a.m, .int .i64 f.win.a.d, .int .i64 f.win.b.y, .int .i64 f.win.b.m, .int .i64 f.win.b.d, .int .i64 f.line, .int .i64 f.col] 48) := ⟨_, rfl⟩
          have b1 : Below wr.heap.size wr w1 := by rw [hw1]; exact bel_alloc _ _
          have hb1 : w1.heap[wr.heap.size]? = some (.cells #[.int .i64 f.amount, .bool f.win.has, .int .i64 f.win.a.y, .int .i64 f.win.a.m, .int .i64 f.win.a.d, .int .i64 f.win.b.y, .int .i64 f.win.b.m, .int .i64 f.win.b.d, .int .i64 f.line, .int .i64 f.col] 48 (0, 0)) := by rw [hw1]; exact aC_heap _ _ _
          have O1 := hid (hh.out.on b1)
          have K1 := hid (hk.out.trans (Kp.of b1 hh.out.wr.size))
          have hkr := hh.out.wr.lt
          have HW := hid hw1
          have KS : Hid (∀ w', Kp w.heap.size k w1 w' → w'.cell? ⟨wr.heap.size, 0, none⟩ = some (.int .i64 f.amount) ∧ w'.cell? ⟨wr.heap.size, 1, none⟩ = some (.bool f.win.has) ∧ w'.cell? ⟨wr.heap.size, 2, none⟩ = some (.int .i64 f.win.a.y) ∧ w'.cell? ⟨wr.heap.size, 3, none⟩ = some (.int .i64 f.win.a.m) ∧ w'.cell? ⟨wr.heap.size, 4, none⟩ = some (.int .i64 f.win.a.d) ∧ w'.cell? ⟨wr.heap.size, 5, none⟩ = some (.int .i64 f.win.b.y) ∧ w'.cell? ⟨wr.heap.size, 6, none⟩ = some (.int .i64 f.win.b.m) ∧ w'.cell? ⟨wr.heap.size, 7, none⟩ = some (.int .i64 f.win.b.d) ∧ Kp w.heap.size k w1 w') := hid fun w' g => by
            have := g.at hb1 (Nat.ne_of_gt hkr) (by decide)
            exact ⟨by rw [cell_of this]; rfl, by rw [cell_of this]; rfl, by rw [cell_of this]; rfl, by rw [cell_of this]; rfl, by rw [cell_of this]; rfl, by rw [cell_of this]; rfl, by rw [cell_of this]; rfl, by rw [cell_of this]; rfl, g⟩
          clear hti hw1 b1 hb1 hlen hmem hkr
          subst e
          go_upto_region 12 with fail
          rw [← HW.out]
          clear HW a0 a1 a2 a3 a4 a5 a6 a7 a8 a9
          have OO := hid (O1.out.on (Below.drew (Below.refl _ _)))
          have KK : Hid (Kp w.heap.size k w1 w1.drew) := hid (Kp.of (Below.drew (Below.refl _ _)) O1.out.wr.size)
          clear O1
          go_region_held_law (fun w' => w'.cell? ⟨wr.heap.size, 0, none⟩ = some (.int .i64 f.amount) ∧ w'.cell? ⟨wr.heap.size, 1, none⟩ = some (.bool f.win.has) ∧ w'.cell? ⟨wr.heap.size, 2, none⟩ = some (.int .i64 f.win.a.y) ∧ w'.cell? ⟨wr.heap.size, 3, none⟩ = some (.int .i64 f.win.a.m) ∧ w'.cell? ⟨wr.heap.size, 4, none⟩ = some (.int .i64 f.win.a.d) ∧ w'.cell? ⟨wr.heap.size, 5, none⟩ = some (.int .i64 f.win.b.y) ∧ w'.cell? ⟨wr.heap.size, 6, none⟩ = some (.int .i64 f.win.b.m) ∧ w'.cell? ⟨wr.heap.size, 7, none⟩ = some (.int .i64 f.win.b.d) ∧ Kp w.heap.size k w1 w')
            ((first | (refine KS.out _ ?_; exact KK.out) | (refine KS.out _ ?_; exact KK.out.trans (Kp.of (bel_alloc _ _) OO.out.wr.size))))
            (first
              | (go_at_call 27
                 refine (NI.out _ OO.out.bel).mono ?_
                 rintro e w' ⟨rfl, b⟩
                 replace KK := hid (KK.out.trans (Kp.of b OO.out.wr.size))
                 replace OO := hid (OO.out.on b)
                 clear b)
              | (go_at_call 28
                 refine (NV.out _ OO.out.bel).mono ?_
                 rintro e w' ⟨rfl, b⟩
                 replace KK := hid (KK.out.trans (Kp.of b OO.out.wr.size))
                 replace OO := hid (OO.out.on b)
                 clear b)
              | (go_at_call 25
                 refine (tell_new [(⟨#[102, 101, 101]⟩ : ByteArray), S ++ Z] OO.out.wr (by decide) (by show 2 ≤ 100; decide) (by rw [jl2]; show _ + (3 + (S ++ Z).size + 1) + 300 ≤ _; have := HL.out; omega)).mono ?_
                 rintro e w' ⟨rfl, q, kp⟩
                 rw [← ET.out] at q
                 replace OO := hid (OO.out.put q kp)
                 replace KK := hid (KK.out.trans kp)
                 clear q kp))
          all_goals
            go_wp2
            go_roundw
            case rel => exact ⟨i2 + 1, by simp, by omega, hid (by rw [ST.out, ← List.append_assoc]; exact OO.out), hid (K1.out.trans KK.out)⟩
            case measure => simp [intOf]; omega
        · obtain rfl : i2 = nF := by omega
          have OO := hh
          have KK := hk
          clear hh hk hlt hi
          obtain ⟨c0, c1, c2, c3, c4, c5, c6, c7, c8, c9, c10⟩ := PX.out _ KK.out
          clear c0 c1 c2 c3 c4 c5 c6 c7 c8 c9
          go_wp2
          clear c10
          obtain ⟨G3, hG3⟩ : ∃ G3, G3 = G2 ++ (p.fees.take i2).flatMap feeT := ⟨_, rfl⟩
          rw [← hG3] at OO
          have ZG3 : Hid (G3.length ≤ 40000000000) := hid (by rw [hG3, List.length_append]; have := ZG2.out; have := LF.out i2; omega)
          have EG3 : Hid (G3 = G ++ p.meters.flatMap meterT ++ p.fees.flatMap feeT) := hid (by rw [hG3, EG2.out, HnF.out, List.take_length])
          clear hG3 ZG2 LF EF HF EG2
          go_loopw [61] (fun i wr => ∃ i' : Nat, i = .int .i64 (i' : Int) ∧ i' ≤ nC ∧ Hid (Ow w wr k (G3 ++ (p.charges.take i').flatMap chargeT) 0) ∧ Hid (Kp w.heap.size k w2 wr)) (fun i _ => nC - (intOf i).toNat)
          case atStart => exact ⟨0, rfl, Nat.zero_le _, hid (by rw [List.take_zero, List.flatMap_nil, List.append_nil]; exact OO.out), KK⟩
          case round =>
            obtain ⟨i3, rfl, hi, hh, hk⟩ := hrel
            clear OO KK
            by_cases hlt : i3 < nC
            · obtain ⟨c, hti⟩ : ∃ m, p.charges[i3]? = some m := ⟨_, List.getElem?_eq_getElem (by have := HnC.out; omega)⟩
              have hmem := List.mem_of_getElem? hti
              obtain ⟨b, o, ta, tc, aa, ac, e, ax, lx0⟩ := R6.charge_at HC.out hti
              have ax2 : R6.ChargeAt wr b (o + i3 * 16) c ta tc aa ac := by
                obtain ⟨l0, x0, x1, x2, x3, x4, x5, x6, x7, x8, x9, x10, x11, x12, x13, x14, x15⟩ := ax
                exact ⟨Nat.lt_of_lt_of_le l0 hh.out.bel.size, (hh.out.bel.cell l0).trans x0, (hh.out.bel.cell l0).trans x1, (hh.out.bel.cell l0).trans x2, (hh.out.bel.cell l0).trans x3, (hh.out.bel.cell l0).trans x4, (hh.out.bel.cell l0).trans x5, (hh.out.bel.cell l0).trans x6, (hh.out.bel.cell l0).trans x7, (hh.out.bel.cell l0).trans x8, (hh.out.bel.cell l0).trans x9, (hh.out.bel.cell l0).trans x10, (hh.out.bel.cell l0).trans x11, (hh.out.bel.cell l0).trans x12, (hh.out.bel.cell l0).trans x13, (hh.out.bel.cell l0).trans x14, (hh.out.bel.cell l0).trans x15⟩
              have r1 := hid (range_at ax2)
              have r2 := hid (range_new wr (chargeC c ta tc aa ac) 52)
              have ST : Hid ((p.charges.take (i3 + 1)).flatMap chargeT = (p.charges.take i3).flatMap chargeT ++ chargeT c) := hid (flat_take hti)
              have hlen : (G3 ++ (p.charges.take i3).flatMap chargeT).length + 200000000 ≤ 140737488355328 := by
                have := LC.out i3
                have := ZG3.out
                rw [List.length_append]
                omega
              have b1 : Below wr.heap.size wr (wr.alloc (.cells (chargeC c ta tc aa ac).toArray 52)) := bel_alloc _ _
              have NG := hid (EC.out c hmem ta tc aa ac _ _ lx0 (hh.out.on b1) hlen)
              have K1 := hid (hk.out.trans (Kp.of b1 hh.out.wr.size))
              have O1 := hid (hh.out.on b1)
              clear hti ax ax2 lx0 hlen b1 hmem
              unfold chargeC at r1 r2 NG K1 O1
              subst e
              go_wp2_with (first
                | (with_reducible refine wpList_load_mid (op := Oper.mk (some 64) (Op.load 52 (Operand.tmp 63)) _ _ _ _) ?_ 52 (.tmp 63) ?_ b (o + i3 * 16) ?_ [.string c.meter, .bool c.win.has, .int .i64 c.win.a.y, .int .i64 c.win.a.m, .int .i64 c.win.a.d, .int .i64 c.win.b.y, .int .i64 c.win.b.m, .int .i64 c.win.b.d, .int .i64 c.allowance, .int .i64 c.block, .int .i64 c.kind, .slice ta c.tiers.length tc, .int .i64 c.mode, .slice aa c.adjusts.length ac, .int .i64 c.line, .int .i64 c.col] _ r1.out Tryz.underlying52 ?_ ?_ ?_; rfl; rfl; go_simp; rfl; kernel_rfl)
                | (with_reducible refine wpList_load_mid (op := Oper.mk (some 65) (Op.load 52 (Operand.tmp 9)) _ _ _ _) ?_ 52 (.tmp 9) ?_ wr.heap.size 0 ?_ [.string c.meter, .bool c.win.has, .int .i64 c.win.a.y, .int .i64 c.win.a.m, .int .i64 c.win.a.d, .int .i64 c.win.b.y, .int .i64 c.win.b.m, .int .i64 c.win.b.d, .int .i64 c.allowance, .int .i64 c.block, .int .i64 c.kind, .slice ta c.tiers.length tc, .int .i64 c.mode, .slice aa c.adjusts.length ac, .int .i64 c.line, .int .i64 c.col] _ r2.out Tryz.underlying52 ?_ ?_ ?_; rfl; rfl; go_simp; rfl; kernel_rfl)
                | (with_reducible refine wpList_store_new (op := Oper.mk none (Op.store 52 (Operand.tmp 9) (Operand.tmp 64)) _ _ _ _) ?_ 52 (.tmp 9) (.tmp 64) ?_ wr _ #[.string c.meter, .bool c.win.has, .int .i64 c.win.a.y, .int .i64 c.win.a.m, .int .i64 c.win.a.d, .int .i64 c.win.b.y, .int .i64 c.win.b.m, .int .i64 c.win.b.d, .int .i64 c.allowance, .int .i64 c.block, .int .i64 c.kind, .slice ta c.tiers.length tc, .int .i64 c.mode, .slice aa c.adjusts.length ac, .int .i64 c.line, .int .i64 c.col] ?_ ?_ ?_ ?_ ?_ ?_; rfl; rfl; go_simp; go_simp; kernel_rfl; rfl; (simp [Value.oneCell']))
                | (go_at_call 29; refine NG.out.mono ?_; rintro e w3 ⟨rfl, q, kp⟩; have O3 := hid q; have K3 := hid (K1.out.trans kp); clear q kp))
              go_roundw
              case rel => exact ⟨i3 + 1, by simp, by omega, hid (by rw [ST.out, ← List.append_assoc]; exact O3.out), K3⟩
              case measure => simp [intOf]; omega
            · obtain rfl : i3 = nC := by omega
              have OF := hh.out
              rw [HnC.out, List.take_length, EG3.out, ← ER.out] at OF
              have cS := string_any OF.wr NR.out
              have BF := hid OF.bel
              clear hh hk hlt hi OF
              go_wp2_with (go_at_call 30; refine cS.mono ?_; rintro e w3 ⟨rfl, b3⟩)
              go_ret
              exact ⟨rfl, BF.out.trans b3⟩
end
end Go.Proofs.YteelbdcgdkpioaaGreatDoor.Sw
