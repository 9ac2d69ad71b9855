/- Package line, walked: Zip. -/
import Derived.Test.YtghhnimimccpoaaJLn7
import Derived.Test.YtghhnimimccpoaaJL14f
import Derived.Lib.QuietBelow
namespace Go.Proofs.Ytghhnimimccpoaa.P
end Go.Proofs.Ytghhnimimccpoaa.P
namespace Go.Proofs.Ytghhnimimccpoaa.Mm
end Go.Proofs.Ytghhnimimccpoaa.Mm
namespace Go.Proofs.Ytghhnimimccpoaa.R6
end Go.Proofs.Ytghhnimimccpoaa.R6
namespace Go.Proofs.Ytghhnimimccpoaa.R14
end Go.Proofs.Ytghhnimimccpoaa.R14
namespace Go.Proofs.Ytghhnimimccpoaa.L14
end Go.Proofs.Ytghhnimimccpoaa.L14
namespace Go.Proofs.Ytghhnimimccpoaa.Li
open Go.RowKit Go.Sort Go.Shelf P Mm R6 R14 L14
theorem add_len {α : Type} [DecidableEq α] (rs : List (Rn α)) (r : Rn α) : (addR rs r).length ≤ rs.length + 1 := by
  unfold addR
  split
  · simp
  · rename_i z hz
    have : rs ≠ [] := fun e => by rw [e] at hz; cases hz
    have := List.length_pos_iff.2 this
    split
    · rw [List.length_append, List.length_dropLast, List.length_singleton]
      omega
    · rw [List.length_append, List.length_singleton]
      exact Nat.le_refl _
theorem with_len {α : Type} [DecidableEq α] (rs : List (Rn α)) (r : Rn α) : (withR rs r).length ≤ rs.length + 1 := by
  unfold withR
  split
  · omega
  · exact add_len rs r
theorem fin_int {W : World} {k1 n0 : Nat} {V cv : Value} {R : List (Rn Int)} (oo : W.ownsRow n0 69 3 V R.length (R.flatMap rnC)) (hk : k1 < n0) (hok : ∀ r ∈ R, RnOk r) (BX : Box W k1 [cv]) :
    ∃ ao cp, V = .slice ao R.length cp ∧ Row tRn (W.setCell ⟨k1, 0, none⟩ (.slice ao R.length cp)) ao R.length cp R ∧ Box (W.setCell ⟨k1, 0, none⟩ (.slice ao R.length cp)) k1 [.slice ao R.length cp] ∧ ∀ ad, ao = some ad → n0 ≤ ad.block := by
  obtain ⟨ao, cp, rfl, -⟩ := row_own (n := 3) (cells := rnC) (ok := RnOk) (hn := fun _ => rfl) oo hok
  have o2 := other_own oo (k := k1) (i := 0) hk (.slice ao R.length cp)
  obtain ⟨ao3, cp3, e3, R3⟩ := row_own (n := 3) (cells := rnC) (ok := RnOk) (hn := fun _ => rfl) o2 hok
  simp only [Value.slice.injEq] at e3
  obtain ⟨rfl, -, rfl⟩ := e3
  exact ⟨ao, cp, rfl, R3, BX.set 0 _, fun ad e => (oo.lt ad.block (by rw [e]; rfl)).1⟩
theorem two_new (w : World) (A B : List Value) (t u : TypeId) : Box (((w.alloc (.cells A.toArray t)).alloc (.cells B.toArray u)).drew) w.heap.size A ∧ Box (((w.alloc (.cells A.toArray t)).alloc (.cells B.toArray u)).drew) (w.heap.size + 1) B ∧ Below w.heap.size w (((w.alloc (.cells A.toArray t)).alloc (.cells B.toArray u)).drew) := by
  have b1 := bel_alloc w (.cells A.toArray t)
  have b2 := bel_alloc (w.alloc (.cells A.toArray t)) (.cells B.toArray u)
  have X1 := (Box.new w A t).on b2
  have X2 := Box.new (w.alloc (.cells A.toArray t)) B u
  have e : (w.alloc (.cells A.toArray t)).heap.size = w.heap.size + 1 := by simp
  rw [e] at X2
  exact ⟨⟨X1.lt, X1.cell, X1.free⟩, ⟨X2.lt, X2.cell, X2.free⟩, Below.drew (bel_on b1 b2)⟩
def tRb : Ty (Rn Bool) := leaf 3 rbC RbOk (fun _ => rfl)
theorem rb_at {w : World} {ao : Option Addr} {len cap : Nat} {xs : List (Rn Bool)} (h : Row tRb w ao len cap xs) {j : Nat} {r : Rn Bool} (hj : xs[j]? = some r) :
    ∃ b o, ao = some ⟨b, o, none⟩ ∧ b < w.heap.size ∧ w.cell? ⟨b, o + j * 3, none⟩ = some (.int .i64 r.a) ∧ w.cell? ⟨b, o + j * 3 + 1, none⟩ = some (.int .i64 r.b) ∧ w.cell? ⟨b, o + j * 3 + 2, none⟩ = some (.bool r.v) ∧ RbOk r := by
  obtain ⟨b, o, cs, h1, h2, ⟨h3, h5⟩, h4⟩ := h.at hj
  subst h3
  exact ⟨b, o, h1, h2, lies0 (h4 0 _ rfl), h4 1 _ rfl, h4 2 _ rfl, h5⟩
theorem both_in {α β γ : Type} {f : α → β → γ} {k : Int} {l : List α} {k' : Int} {l' : List β} {Z : List γ} (h : Both f k l k' l' Z) : Z.length ≤ l.length ∧ ∀ z ∈ Z, ∃ a ∈ l, ∃ b, z = f a b := by
  constructor
  · rcases Nat.lt_or_ge l.length Z.length with q | q
    · exfalso
      have e := h l.length
      rw [List.getElem?_eq_getElem q] at e
      have : atL k l (max k k' + (l.length : Int)) = none := by
        unfold atL
        rw [if_neg (by omega), List.getElem?_eq_none (by omega)]
      rw [this] at e
      cases e
    · exact q
  · intro z hz
    obtain ⟨i, hi⟩ := List.getElem?_of_mem hz
    have e := h i
    rw [hi] at e
    split at e
    · rename_i a b ha _
      refine ⟨a, ?_, b, Option.some.inj e⟩
      unfold atL at ha
      split at ha
      · cases ha
      · exact List.mem_of_getElem? ha
    · cases e
set_option maxHeartbeats 8000000 in
set_option maxRecDepth 100000 in
theorem zip_int (F : Nat) (lb : Array Value) (hen : ∀ args W, (callFunc F args).run Try.prog W = .ok (.enter F args) W) (f : Int → Int → Int) (k : Int) (l : List Int) (ao : Option Addr) (cap : Nat) (k' : Int) (l' : List Int) (bo : Option Addr) (bcap : Nat) (w : World)
    (hf : ∀ a b W, Below w.heap.size w W → Calls Try.prog F (#[.int .i64 a, .int .i64 b] ++ lb) W fun e W' => e = .returned (.int .i64 (f a b)) ∧ W = W') (hr : Row tRn w ao (runsF k l).length cap (runsF k l)) (hr' : Row tRn w bo (runsF k' l').length bcap (runsF k' l')) (hn : (runsF k l).length ≤ 100000) (hn' : (runsF k' l').length ≤ 100000) (Z : List Int) (hZ : Both f k l k' l' Z)
    (hok : ∀ c, ∀ r ∈ runsF (max k k') (Z.take c), RnOk r) :
    Calls Try.prog 22 #[.agg #[.slice ao (runsF k l).length cap], .agg #[.slice bo (runsF k' l').length bcap], .func (.func F) #[] lb] w fun e w' => (∃ ao' cap', e = .returned (.agg #[.slice ao' (runsF (max k k') Z).length cap']) ∧ Row tRn w' ao' (runsF (max k k') Z).length cap' (runsF (max k k') Z) ∧ ∀ ad, ao' = some ad → w.heap.size ≤ ad.block) ∧ Below w.heap.size w w' := by
  obtain ⟨n1, hn1⟩ : ∃ n, n = (runsF k l).length := ⟨_, rfl⟩
  obtain ⟨n2, hn2⟩ : ∃ n, n = (runsF k' l').length := ⟨_, rfl⟩
  rw [← hn1] at hr hn ⊢
  rw [← hn2] at hr' hn' ⊢
  obtain ⟨w1, hw1⟩ : ∃ W, W = w.alloc (.cells ([.slice ao n1 cap] : List Value).toArray 27) := ⟨_, rfl⟩
  obtain ⟨k1, hk1⟩ : ∃ k, k = w.heap.size := ⟨_, rfl⟩
  have b1 : Below w.heap.size w w1 := by rw [hw1]; exact bel_alloc _ _
  have X1 : Box w1 k1 [.slice ao n1 cap] := by rw [hw1, hk1]; exact Box.new w _ _
  obtain ⟨w2, hw2⟩ : ∃ W, W = w1.alloc (.cells ([.slice bo n2 bcap] : List Value).toArray 27) := ⟨_, rfl⟩
  obtain ⟨k2, hk2⟩ : ∃ k, k = w1.heap.size := ⟨_, rfl⟩
  have b2 : Below w1.heap.size w1 w2 := by rw [hw2]; exact bel_alloc _ _
  have X2 : Box w2 k2 [.slice bo n2 bcap] := by rw [hw2, hk2]; exact Box.new w1 _ _
  obtain ⟨w3, hw3⟩ : ∃ W, W = w2.alloc (.cells ([.slice none 0 0] : List Value).toArray 27) := ⟨_, rfl⟩
  obtain ⟨k3, hk3⟩ : ∃ k, k = w2.heap.size := ⟨_, rfl⟩
  have b3 : Below w2.heap.size w2 w3 := by rw [hw3]; exact bel_alloc _ _
  have X3 : Box w3 k3 [.slice none 0 0] := by rw [hw3, hk3]; exact Box.new w2 _ _
  obtain ⟨n0, hn0⟩ : ∃ n, n = w3.heap.size := ⟨_, rfl⟩
  have e1 : w1.heap.size = w.heap.size + 1 := by rw [hw1]; simp
  have e2 : w2.heap.size = w.heap.size + 2 := by rw [hw2]; simp [e1]
  have e3 : w3.heap.size = w.heap.size + 3 := by rw [hw3]; simp [e2]
  have HB := hid (show w.heap.size ≤ k1 ∧ k1 < k2 ∧ k2 < k3 ∧ k3 < n0 ∧ n0 = w3.heap.size by omega)
  have b03 := bel_on b1 (bel_on b2 b3)
  have XX := hid (fun (W : World) (b : Below w3.heap.size w3 W) => (⟨((X1.on b2).on b3).on b, (X2.on b3).on b, X3.on b, bel_on b03 b⟩ : Box W k1 [.slice ao n1 cap] ∧ Box W k2 [.slice bo n2 bcap] ∧ Box W k3 [.slice none 0 0] ∧ Below w.heap.size w W))
  have HR := hid (fun (W : World) (b : Below w3.heap.size w3 W) => hr.on (bel_on b03 b))
  have HR' := hid (fun (W : World) (b : Below w3.heap.size w3 W) => hr'.on (bel_on b03 b))
  have HF := hid (fun (a : Int) (b : Int) (W : World) (q : Below w3.heap.size w3 W) => hf a b W (bel_on b03 q))
  have HZ := hid hZ
  have OK := hid hok
  have HN1 := hid hn1
  have HN2 := hid hn2
  have B0 := hid (Below.refl w3.heap.size w3)
  have HW := hid (show w3 = ((w.alloc (.cells #[.slice ao n1 cap] 27)).alloc (.cells #[.slice bo n2 bcap] 27)).alloc (.cells #[.slice none 0 0] 27) by rw [hw3, hw2, hw1])
  have HK1 := hid hk1
  have HK2 := hid (show k2 = w.heap.size + 1 by omega)
  have HK3 := hid (show k3 = w.heap.size + 1 + 1 by omega)
  have HEN := hid hen
  have lm := hr.hmax
  have lc := hr.hcap
  have lm' := hr'.hmax
  have lc' := hr'.hcap
  clear hw1 hk1 X1 b1 hw2 hk2 X2 b2 hw3 hk3 X3 b3 hr hr' hZ hok e1 e2 e3 hn0 hn1 hn2 b03 hf
  go_enter Try.func22, Try.ntmps22
  go_upto_region 1 with fail
  rw [← HW.out, ← HK3.out, ← HK2.out, ← HK1.out]
  clear HW HK1 HK2 HK3
  go_wp2
  go_loopw [7, 8, 9] (fun v i j wr => ∃ (V : Value) (i' j' N : Nat), V = v ∧ i = .int .i64 (i' : Int) ∧ j = .int .i64 (j' : Int) ∧ i' ≤ n1 ∧ j' ≤ n2 ∧ N ≤ i' + j' ∧ Hid (N = (runsF (max k k') (Z.take (frC k l k' l' i' j'))).length) ∧ Hid (wr.ownsRow n0 69 3 V N ((runsF (max k k') (Z.take (frC k l k' l' i' j'))).flatMap rnC)) ∧ Hid (Below w3.heap.size w3 wr)) (fun _ i j _ => (n1 + n2) - ((intOf i).toNat + (intOf j).toNat))
  case atStart => exact ⟨_, 0, 0, 0, rfl, rfl, rfl, Nat.zero_le _, Nat.zero_le _, Nat.le_refl _, hid (by rw [frC_zero]; rfl), hid (by rw [frC_zero]; exact World.ownsRow_nil _ _ _ _), B0⟩
  case round =>
    obtain ⟨V, i', j', N, rfl, rfl, rfl, hi, hj, hNN, hN, hO, hb⟩ := hrel
    clear B0
    have X1 := (XX.out wr hb.out).1
    have X2 := (XX.out wr hb.out).2.1
    have c0 := X1.cell 0 _ rfl
    have l1 := X1.lt
    have d0 := X2.cell 0 _ rfl
    have l2 := X2.lt
    clear X1 X2
    by_cases hlt : i' < n1
    · by_cases hlt' : j' < n2
      · obtain ⟨x, hx⟩ : ∃ x, (runsF k l)[i']? = some x := ⟨_, List.getElem?_eq_getElem (by have := HN1.out; omega)⟩
        obtain ⟨y, hy⟩ : ∃ y, (runsF k' l')[j']? = some y := ⟨_, List.getElem?_eq_getElem (by have := HN2.out; omega)⟩
        obtain ⟨gb, go, eg, lg, s0, s1, s2, -⟩ := rn_at (HR.out wr hb.out) hx
        obtain ⟨hb', ho, eh, lh, t0, t1, t2, -⟩ := rn_at (HR'.out wr hb.out) hy
        subst eg eh
        have i0 : (i' : Int) < (n1 : Int) := by omega
        have j0 : (j' : Int) < (n2 : Int) := by omega
        have i2 : (0 : Int) ≤ (i' : Int) := by omega
        have j2 : (0 : Int) ≤ (j' : Int) := by omega
        have HX := hid hx
        have HY := hid hy
        clear hx hy
        go_upto_region 4 with fail
        go_cut [10, 11] (fun p q W => ∃ g10 g11 : Nat, p = .pointer (some ⟨g10, 0, none⟩) ∧ q = .pointer (some ⟨g11, 0, none⟩) ∧ Hid (Box W g10 [.int .i64 x.a, .int .i64 x.b, .int .i64 x.v] ∧ Box W g11 [.int .i64 y.a, .int .i64 y.b, .int .i64 y.v] ∧ wr.heap.size ≤ g10 ∧ wr.heap.size ≤ g11 ∧ Below wr.heap.size wr W))
        case first =>
          have TA := hid (two_new wr [.int .i64 x.a, .int .i64 x.b, .int .i64 x.v] [.int .i64 y.a, .int .i64 y.b, .int .i64 y.v] 69 69)
          have TB := hid (two_new wr [.int .i64 y.a, .int .i64 y.b, .int .i64 y.v] [.int .i64 x.a, .int .i64 x.b, .int .i64 x.v] 69 69)
          go_region
          all_goals
            go_wp2
            go_meet
            first
              | exact ⟨_, _, rfl, rfl, hid ⟨TA.out.1, TA.out.2.1, Nat.le_refl _, Nat.le_succ _, TA.out.2.2⟩⟩
              | exact ⟨_, _, rfl, rfl, hid ⟨TB.out.2.1, TB.out.1, Nat.le_succ _, Nat.le_refl _, TB.out.2.2⟩⟩
        case rest =>
          obtain ⟨g10, g11, rfl, rfl, hc⟩ := hcut
          have X10 := hc.out.1
          have X11 := hc.out.2.1
          have m0 := X10.cell 0 _ rfl
          have m1 := X10.cell 1 _ rfl
          have m2 := X10.cell 2 _ rfl
          have lx := X10.lt
          have p0 := X11.cell 0 _ rfl
          have p1 := X11.cell 1 _ rfl
          have p2 := X11.cell 2 _ rfl
          have ly := X11.lt
          have bc := hc.out.2.2.2.2
          have BC := hid (bel_on hb.out bc)
          have KV := hid (fun (j : Nat) (e : V.ownBlock = some j) => hO.out.lt j e)
          have OO := hid (owns_on hO.out bc)
          have wki : IntKind.i64.wrap ((i' : Int) + 1) = (i' : Int) + 1 := wrap_l (by unfold I64; omega)
          have wkj : IntKind.i64.wrap ((j' : Int) + 1) = (j' : Int) + 1 := wrap_l (by unfold I64; omega)
          have NB := hid (show n0 ≤ wc.heap.size by have := HB.out; have := BC.out.size; omega)
          clear c0 d0 s0 s1 s2 t0 t1 t2 X10 X11 bc hO hb lg lh l1 l2 i0 j0 i2 j2 lm lc lm' lc'
          obtain ⟨p, hp⟩ : ∃ p, p = max x.a y.a := ⟨_, rfl⟩
          obtain ⟨q, hq⟩ : ∃ q, q = min x.b y.b := ⟨_, rfl⟩
          go_upto_region 5 with fail
          go_cut [12, 13] (fun u v W => u = .int .i64 p ∧ v = .int .i64 q ∧ Hid (Below wc.heap.size wc W))
          case first =>
            have HP := hid hp
            have HQ := hid hq
            clear hp hq KV OO NB BC hc HX HY
            go_quiet (fail)
            go_wp2
            all_goals
              go_meet
              exact ⟨congrArg (Value.int .i64) (by have := HP.out; omega), congrArg (Value.int .i64) (by have := HQ.out; omega), hid (bel_drewN (Below.refl _ _) _)⟩
          case rest =>
            obtain ⟨rfl, rfl, hd⟩ := hcut
            have X10 := hid (hc.out.1.on hd.out)
            have X11 := hid (hc.out.2.1.on hd.out)
            have GE := hid (show wr.heap.size ≤ g10 ∧ wr.heap.size ≤ g11 from ⟨hc.out.2.2.1, hc.out.2.2.2.1⟩)
            have BC2 := hid (bel_on BC.out hd.out)
            have OO2 := hid (owns_on OO.out hd.out)
            have NB2 := hid (Nat.le_trans NB.out hd.out.size)
            clear m0 m1 m2 lx p0 p1 p2 ly OO BC NB hc hd
            by_cases hpq : p ≤ q
            · have z : decide (p ≤ q) = true := decide_eq_true hpq
              have cF := hid (HF.out x.v y.v wc BC2.out)
              have cW := hid (with_int (runsF (max k k') (Z.take (frC k l k' l' i' j'))) V n0 N p q (f x.v y.v) wc hN.out OO2.out (OK.out _) NB2.out (by omega))
              rw [show withR (runsF (max k k') (Z.take (frC k l k' l' i' j'))) ⟨p, q, f x.v y.v⟩ = runsF (max k k') (Z.take (q + 1 - max k k').toNat) by
                unfold withR
                rw [if_neg (Int.not_lt.2 hpq), hp, hq]
                exact zip_meet HZ.out HX.out HY.out (by rw [← hp, ← hq]; exact hpq)] at cW
              have MN := hid (show (runsF (max k k') (Z.take (q + 1 - max k k').toNat)).length ≤ N + 1 by
                have e := zip_meet HZ.out HX.out HY.out (by rw [← hp, ← hq]; exact hpq)
                rw [← hq] at e
                rw [← e, hN.out]
                exact add_len _ _)
              have ma := X10.out.cell 2 _ rfl
              have pa := X11.out.cell 2 _ rfl
              have lx := X10.out.lt
              have ly := X11.out.lt
              have hen := HEN.out
              have HPQ := hid hpq
              have HP := hid hp
              have HQ := hid hq
              clear hp hq
              go_wp2_with fail
              refine cF.out.mono ?_
              rintro e w5 ⟨rfl, rfl⟩
              go_wp2_with fail
              refine cW.out.mono ?_
              rintro e w5 ⟨V2, M, rfl, hM, hO2, hg⟩
              have Y10 := X10.out.grown hg (fun e => by have := (KV.out _ e.symm).2; have := GE.out; omega)
              have m1 := Y10.cell 1 _ rfl
              have lx5 := Y10.lt
              have BC5 := hid (BC2.out.grown hg BC2.out.size (fun j e => by have := (KV.out j e).1; have := HB.out; omega))
              have O5 := hid hO2
              have M5 := hid hM
              have ML : M ≤ N + 1 := by rw [hM]; exact MN.out
              clear hO2 hM hg cF cW ma pa lx ly Y10 MN OO2 hpq
              by_cases hxq : x.b = q
              · have z9 : (x.b == q) = true := beq_iff_eq.2 hxq
                have FR := hid ((fr_left HX.out HY.out (by rw [← HQ.out]; exact hxq)).1 (by rw [← HQ.out, ← HP.out]; exact HPQ.out))
                rw [← HQ.out] at FR
                clear hxq
                go_wp2
                go_roundw
                case rel => exact ⟨V2, i' + 1, j', M, rfl, by simp, rfl, by omega, by omega, by omega, hid (by rw [FR.out]; exact M5.out), hid (by rw [FR.out]; exact O5.out), BC5⟩
                case measure => simp [intOf]; omega
              · have z9 : (x.b == q) = false := beq_eq_false_iff_ne.2 hxq
                have FR := hid ((fr_right HX.out HY.out (by rw [← HQ.out]; exact hxq)).1 (by rw [← HQ.out, ← HP.out]; exact HPQ.out))
                rw [← HQ.out] at FR
                clear hxq
                go_wp2
                go_roundw
                case rel => exact ⟨V2, i', j' + 1, M, rfl, rfl, by simp, by omega, by omega, by omega, hid (by rw [FR.out]; exact M5.out), hid (by rw [FR.out]; exact O5.out), BC5⟩
                case measure => simp [intOf]; omega
            · have z : decide (p ≤ q) = false := decide_eq_false hpq
              have m1 := X10.out.cell 1 _ rfl
              have lx := X10.out.lt
              have HPQ := hid hpq
              have HP := hid hp
              have HQ := hid hq
              clear hp hq hpq
              by_cases hxq : x.b = q
              · have z9 : (x.b == q) = true := beq_iff_eq.2 hxq
                have FR := hid ((fr_left HX.out HY.out (by rw [← HQ.out]; exact hxq)).2 (by rw [← HQ.out, ← HP.out]; exact HPQ.out))
                clear hxq
                go_wp2
                go_roundw
                case rel => exact ⟨V, i' + 1, j', N, rfl, by simp, rfl, by omega, by omega, by omega, hid (by rw [FR.out]; exact hN.out), hid (by rw [FR.out]; exact OO2.out), BC2⟩
                case measure => simp [intOf]; omega
              · have z9 : (x.b == q) = false := beq_eq_false_iff_ne.2 hxq
                have FR := hid ((fr_right HX.out HY.out (by rw [← HQ.out]; exact hxq)).2 (by rw [← HQ.out, ← HP.out]; exact HPQ.out))
                clear hxq
                go_wp2
                go_roundw
                case rel => exact ⟨V, i', j' + 1, N, rfl, rfl, by simp, by omega, by omega, by omega, hid (by rw [FR.out]; exact hN.out), hid (by rw [FR.out]; exact OO2.out), BC2⟩
                case measure => simp [intOf]; omega
      · have z2 : ¬ (j' : Int) < (n2 : Int) := by omega
        have EA := both_end (i := i') (j := j') HZ.out (.inr (by have := HN2.out; omega))
        have oo := hO.out
        have EN := hN.out
        rw [EA] at oo EN
        subst EN
        have BX := (XX.out wr hb.out).2.2.1
        obtain ⟨ao2, cp, e, RF, X7, KA⟩ := fin_int (k1 := k3) oo (by have := HB.out; omega) (by have := OK.out Z.length; rwa [List.take_length] at this) BX
        subst e
        have e0 := BX.cell 0 _ rfl
        have f0 := BX.free 0
        have l0 := BX.lt
        have RF := hid RF
        have X7 := hid X7
        have KA := hid KA
        have BF := hid ((XX.out wr hb.out).2.2.2.setCell (p := ⟨k3, 0, none⟩) (by have := HB.out; show w.heap.size ≤ k3; omega) (.slice ao2 (runsF (max k k') Z).length cp))
        clear EA oo hN hO BX
        go_wp2
        refine bodyPost_ret (v := .agg #[.slice ao2 (runsF (max k k') Z).length cp]) ?_ rfl ⟨⟨ao2, cp, rfl, RF.out, fun ad e => by have := KA.out ad e; have := HB.out; omega⟩, BF.out⟩
        exact Md.results_mid rfl _ _ k3 [.slice ao2 (runsF (max k k') Z).length cp] _ rfl (fun j u h => by rw [Nat.zero_add]; exact X7.out.cell j u h) Try.underlying27 rfl (by kernel_rfl)
    · have z2 : ¬ (i' : Int) < (n1 : Int) := by omega
      have EA := both_end (i := i') (j := j') HZ.out (.inl (by have := HN1.out; omega))
      have oo := hO.out
      have EN := hN.out
      rw [EA] at oo EN
      subst EN
      have BX := (XX.out wr hb.out).2.2.1
      obtain ⟨ao2, cp, e, RF, X7, KA⟩ := fin_int (k1 := k3) oo (by have := HB.out; omega) (by have := OK.out Z.length; rwa [List.take_length] at this) BX
      subst e
      have e0 := BX.cell 0 _ rfl
      have f0 := BX.free 0
      have l0 := BX.lt
      have RF := hid RF
      have X7 := hid X7
      have KA := hid KA
      have BF := hid ((XX.out wr hb.out).2.2.2.setCell (p := ⟨k3, 0, none⟩) (by have := HB.out; show w.heap.size ≤ k3; omega) (.slice ao2 (runsF (max k k') Z).length cp))
      clear EA oo hN hO BX
      go_wp2
      refine bodyPost_ret (v := .agg #[.slice ao2 (runsF (max k k') Z).length cp]) ?_ rfl ⟨⟨ao2, cp, rfl, RF.out, fun ad e => by have := KA.out ad e; have := HB.out; omega⟩, BF.out⟩
      exact Md.results_mid rfl _ _ k3 [.slice ao2 (runsF (max k k') Z).length cp] _ rfl (fun j u h => by rw [Nat.zero_add]; exact X7.out.cell j u h) Try.underlying27 rfl (by kernel_rfl)
set_option maxHeartbeats 8000000 in
set_option maxRecDepth 100000 in
theorem zip_bool (F : Nat) (lb : Array Value) (hen : ∀ args W, (callFunc F args).run Try.prog W = .ok (.enter F args) W) (f : Int → Bool → Int) (k : Int) (l : List Int) (ao : Option Addr) (cap : Nat) (k' : Int) (l' : List Bool) (bo : Option Addr) (bcap : Nat) (w : World)
    (hf : ∀ a b W, Below w.heap.size w W → Calls Try.prog F (#[.int .i64 a, .bool b] ++ lb) W fun e W' => e = .returned (.int .i64 (f a b)) ∧ W = W') (hr : Row tRn w ao (runsF k l).length cap (runsF k l)) (hr' : Row tRb w bo (runsF k' l').length bcap (runsF k' l')) (hn : (runsF k l).length ≤ 100000) (hn' : (runsF k' l').length ≤ 100000) (Z : List Int) (hZ : Both f k l k' l' Z)
    (hok : ∀ c, ∀ r ∈ runsF (max k k') (Z.take c), RnOk r) :
    Calls Try.prog 40 #[.agg #[.slice ao (runsF k l).length cap], .agg #[.slice bo (runsF k' l').length bcap], .func (.func F) #[] lb] w fun e w' => (∃ ao' cap', e = .returned (.agg #[.slice ao' (runsF (max k k') Z).length cap']) ∧ Row tRn w' ao' (runsF (max k k') Z).length cap' (runsF (max k k') Z) ∧ ∀ ad, ao' = some ad → w.heap.size ≤ ad.block) ∧ Below w.heap.size w w' := by
  obtain ⟨n1, hn1⟩ : ∃ n, n = (runsF k l).length := ⟨_, rfl⟩
  obtain ⟨n2, hn2⟩ : ∃ n, n = (runsF k' l').length := ⟨_, rfl⟩
  rw [← hn1] at hr hn ⊢
  rw [← hn2] at hr' hn' ⊢
  obtain ⟨w1, hw1⟩ : ∃ W, W = w.alloc (.cells ([.slice ao n1 cap] : List Value).toArray 27) := ⟨_, rfl⟩
  obtain ⟨k1, hk1⟩ : ∃ k, k = w.heap.size := ⟨_, rfl⟩
  have b1 : Below w.heap.size w w1 := by rw [hw1]; exact bel_alloc _ _
  have X1 : Box w1 k1 [.slice ao n1 cap] := by rw [hw1, hk1]; exact Box.new w _ _
  obtain ⟨w2, hw2⟩ : ∃ W, W = w1.alloc (.cells ([.slice bo n2 bcap] : List Value).toArray 76) := ⟨_, rfl⟩
  obtain ⟨k2, hk2⟩ : ∃ k, k = w1.heap.size := ⟨_, rfl⟩
  have b2 : Below w1.heap.size w1 w2 := by rw [hw2]; exact bel_alloc _ _
  have X2 : Box w2 k2 [.slice bo n2 bcap] := by rw [hw2, hk2]; exact Box.new w1 _ _
  obtain ⟨w3, hw3⟩ : ∃ W, W = w2.alloc (.cells ([.slice none 0 0] : List Value).toArray 27) := ⟨_, rfl⟩
  obtain ⟨k3, hk3⟩ : ∃ k, k = w2.heap.size := ⟨_, rfl⟩
  have b3 : Below w2.heap.size w2 w3 := by rw [hw3]; exact bel_alloc _ _
  have X3 : Box w3 k3 [.slice none 0 0] := by rw [hw3, hk3]; exact Box.new w2 _ _
  obtain ⟨n0, hn0⟩ : ∃ n, n = w3.heap.size := ⟨_, rfl⟩
  have e1 : w1.heap.size = w.heap.size + 1 := by rw [hw1]; simp
  have e2 : w2.heap.size = w.heap.size + 2 := by rw [hw2]; simp [e1]
  have e3 : w3.heap.size = w.heap.size + 3 := by rw [hw3]; simp [e2]
  have HB := hid (show w.heap.size ≤ k1 ∧ k1 < k2 ∧ k2 < k3 ∧ k3 < n0 ∧ n0 = w3.heap.size by omega)
  have b03 := bel_on b1 (bel_on b2 b3)
  have XX := hid (fun (W : World) (b : Below w3.heap.size w3 W) => (⟨((X1.on b2).on b3).on b, (X2.on b3).on b, X3.on b, bel_on b03 b⟩ : Box W k1 [.slice ao n1 cap] ∧ Box W k2 [.slice bo n2 bcap] ∧ Box W k3 [.slice none 0 0] ∧ Below w.heap.size w W))
  have HR := hid (fun (W : World) (b : Below w3.heap.size w3 W) => hr.on (bel_on b03 b))
  have HR' := hid (fun (W : World) (b : Below w3.heap.size w3 W) => hr'.on (bel_on b03 b))
  have HF := hid (fun (a : Int) (b : Bool) (W : World) (q : Below w3.heap.size w3 W) => hf a b W (bel_on b03 q))
  have HZ := hid hZ
  have OK := hid hok
  have HN1 := hid hn1
  have HN2 := hid hn2
  have B0 := hid (Below.refl w3.heap.size w3)
  have HW := hid (show w3 = ((w.alloc (.cells #[.slice ao n1 cap] 27)).alloc (.cells #[.slice bo n2 bcap] 76)).alloc (.cells #[.slice none 0 0] 27) by rw [hw3, hw2, hw1])
  have HK1 := hid hk1
  have HK2 := hid (show k2 = w.heap.size + 1 by omega)
  have HK3 := hid (show k3 = w.heap.size + 1 + 1 by omega)
  have HEN := hid hen
  have lm := hr.hmax
  have lc := hr.hcap
  have lm' := hr'.hmax
  have lc' := hr'.hcap
  clear hw1 hk1 X1 b1 hw2 hk2 X2 b2 hw3 hk3 X3 b3 hr hr' hZ hok e1 e2 e3 hn0 hn1 hn2 b03 hf
  go_enter Try.func40, Try.ntmps40
  go_upto_region 1 with fail
  rw [← HW.out, ← HK3.out, ← HK2.out, ← HK1.out]
  clear HW HK1 HK2 HK3
  go_wp2
  go_loopw [7, 8, 9] (fun v i j wr => ∃ (V : Value) (i' j' N : Nat), V = v ∧ i = .int .i64 (i' : Int) ∧ j = .int .i64 (j' : Int) ∧ i' ≤ n1 ∧ j' ≤ n2 ∧ N ≤ i' + j' ∧ Hid (N = (runsF (max k k') (Z.take (frC k l k' l' i' j'))).length) ∧ Hid (wr.ownsRow n0 69 3 V N ((runsF (max k k') (Z.take (frC k l k' l' i' j'))).flatMap rnC)) ∧ Hid (Below w3.heap.size w3 wr)) (fun _ i j _ => (n1 + n2) - ((intOf i).toNat + (intOf j).toNat))
  case atStart => exact ⟨_, 0, 0, 0, rfl, rfl, rfl, Nat.zero_le _, Nat.zero_le _, Nat.le_refl _, hid (by rw [frC_zero]; rfl), hid (by rw [frC_zero]; exact World.ownsRow_nil _ _ _ _), B0⟩
  case round =>
    obtain ⟨V, i', j', N, rfl, rfl, rfl, hi, hj, hNN, hN, hO, hb⟩ := hrel
    clear B0
    have X1 := (XX.out wr hb.out).1
    have X2 := (XX.out wr hb.out).2.1
    have c0 := X1.cell 0 _ rfl
    have l1 := X1.lt
    have d0 := X2.cell 0 _ rfl
    have l2 := X2.lt
    clear X1 X2
    by_cases hlt : i' < n1
    · by_cases hlt' : j' < n2
      · obtain ⟨x, hx⟩ : ∃ x, (runsF k l)[i']? = some x := ⟨_, List.getElem?_eq_getElem (by have := HN1.out; omega)⟩
        obtain ⟨y, hy⟩ : ∃ y, (runsF k' l')[j']? = some y := ⟨_, List.getElem?_eq_getElem (by have := HN2.out; omega)⟩
        obtain ⟨gb, go, eg, lg, s0, s1, s2, -⟩ := rn_at (HR.out wr hb.out) hx
        obtain ⟨hb', ho, eh, lh, t0, t1, t2, -⟩ := rb_at (HR'.out wr hb.out) hy
        subst eg eh
        have i0 : (i' : Int) < (n1 : Int) := by omega
        have j0 : (j' : Int) < (n2 : Int) := by omega
        have i2 : (0 : Int) ≤ (i' : Int) := by omega
        have j2 : (0 : Int) ≤ (j' : Int) := by omega
        have HX := hid hx
        have HY := hid hy
        clear hx hy
        go_upto_region 4 with fail
        go_cut [10, 11] (fun p q W => ∃ g10 g11 : Nat, p = .pointer (some ⟨g10, 0, none⟩) ∧ q = .pointer (some ⟨g11, 0, none⟩) ∧ Hid (Box W g10 [.int .i64 x.a, .int .i64 x.b, .int .i64 x.v] ∧ Box W g11 [.int .i64 y.a, .int .i64 y.b, .bool y.v] ∧ wr.heap.size ≤ g10 ∧ wr.heap.size ≤ g11 ∧ Below wr.heap.size wr W))
        case first =>
          have TA := hid (two_new wr [.int .i64 x.a, .int .i64 x.b, .int .i64 x.v] [.int .i64 y.a, .int .i64 y.b, .bool y.v] 69 89)
          have TB := hid (two_new wr [.int .i64 y.a, .int .i64 y.b, .bool y.v] [.int .i64 x.a, .int .i64 x.b, .int .i64 x.v] 89 69)
          go_region
          all_goals
            go_wp2
            go_meet
            first
              | exact ⟨_, _, rfl, rfl, hid ⟨TA.out.1, TA.out.2.1, Nat.le_refl _, Nat.le_succ _, TA.out.2.2⟩⟩
              | exact ⟨_, _, rfl, rfl, hid ⟨TB.out.2.1, TB.out.1, Nat.le_succ _, Nat.le_refl _, TB.out.2.2⟩⟩
        case rest =>
          obtain ⟨g10, g11, rfl, rfl, hc⟩ := hcut
          have X10 := hc.out.1
          have X11 := hc.out.2.1
          have m0 := X10.cell 0 _ rfl
          have m1 := X10.cell 1 _ rfl
          have m2 := X10.cell 2 _ rfl
          have lx := X10.lt
          have p0 := X11.cell 0 _ rfl
          have p1 := X11.cell 1 _ rfl
          have p2 := X11.cell 2 _ rfl
          have ly := X11.lt
          have bc := hc.out.2.2.2.2
          have BC := hid (bel_on hb.out bc)
          have KV := hid (fun (j : Nat) (e : V.ownBlock = some j) => hO.out.lt j e)
          have OO := hid (owns_on hO.out bc)
          have wki : IntKind.i64.wrap ((i' : Int) + 1) = (i' : Int) + 1 := wrap_l (by unfold I64; omega)
          have wkj : IntKind.i64.wrap ((j' : Int) + 1) = (j' : Int) + 1 := wrap_l (by unfold I64; omega)
          have NB := hid (show n0 ≤ wc.heap.size by have := HB.out; have := BC.out.size; omega)
          clear c0 d0 s0 s1 s2 t0 t1 t2 X10 X11 bc hO hb lg lh l1 l2 i0 j0 i2 j2 lm lc lm' lc'
          obtain ⟨p, hp⟩ : ∃ p, p = max x.a y.a := ⟨_, rfl⟩
          obtain ⟨q, hq⟩ : ∃ q, q = min x.b y.b := ⟨_, rfl⟩
          go_upto_region 5 with fail
          go_cut [12, 13] (fun u v W => u = .int .i64 p ∧ v = .int .i64 q ∧ Hid (Below wc.heap.size wc W))
          case first =>
            have HP := hid hp
            have HQ := hid hq
            clear hp hq KV OO NB BC hc HX HY
            go_quiet (fail)
            go_wp2
            all_goals
              go_meet
              exact ⟨congrArg (Value.int .i64) (by have := HP.out; omega), congrArg (Value.int .i64) (by have := HQ.out; omega), hid (bel_drewN (Below.refl _ _) _)⟩
          case rest =>
            obtain ⟨rfl, rfl, hd⟩ := hcut
            have X10 := hid (hc.out.1.on hd.out)
            have X11 := hid (hc.out.2.1.on hd.out)
            have GE := hid (show wr.heap.size ≤ g10 ∧ wr.heap.size ≤ g11 from ⟨hc.out.2.2.1, hc.out.2.2.2.1⟩)
            have BC2 := hid (bel_on BC.out hd.out)
            have OO2 := hid (owns_on OO.out hd.out)
            have NB2 := hid (Nat.le_trans NB.out hd.out.size)
            clear m0 m1 m2 lx p0 p1 p2 ly OO BC NB hc hd
            by_cases hpq : p ≤ q
            · have z : decide (p ≤ q) = true := decide_eq_true hpq
              have cF := hid (HF.out x.v y.v wc BC2.out)
              have cW := hid (with_int (runsF (max k k') (Z.take (frC k l k' l' i' j'))) V n0 N p q (f x.v y.v) wc hN.out OO2.out (OK.out _) NB2.out (by omega))
              rw [show withR (runsF (max k k') (Z.take (frC k l k' l' i' j'))) ⟨p, q, f x.v y.v⟩ = runsF (max k k') (Z.take (q + 1 - max k k').toNat) by
                unfold withR
                rw [if_neg (Int.not_lt.2 hpq), hp, hq]
                exact zip_meet HZ.out HX.out HY.out (by rw [← hp, ← hq]; exact hpq)] at cW
              have MN := hid (show (runsF (max k k') (Z.take (q + 1 - max k k').toNat)).length ≤ N + 1 by
                have e := zip_meet HZ.out HX.out HY.out (by rw [← hp, ← hq]; exact hpq)
                rw [← hq] at e
                rw [← e, hN.out]
                exact add_len _ _)
              have ma := X10.out.cell 2 _ rfl
              have pa := X11.out.cell 2 _ rfl
              have lx := X10.out.lt
              have ly := X11.out.lt
              have hen := HEN.out
              have HPQ := hid hpq
              have HP := hid hp
              have HQ := hid hq
              clear hp hq
              go_wp2_with fail
              refine cF.out.mono ?_
              rintro e w5 ⟨rfl, rfl⟩
              go_wp2_with fail
              refine cW.out.mono ?_
              rintro e w5 ⟨V2, M, rfl, hM, hO2, hg⟩
              have Y10 := X10.out.grown hg (fun e => by have := (KV.out _ e.symm).2; have := GE.out; omega)
              have m1 := Y10.cell 1 _ rfl
              have lx5 := Y10.lt
              have BC5 := hid (BC2.out.grown hg BC2.out.size (fun j e => by have := (KV.out j e).1; have := HB.out; omega))
              have O5 := hid hO2
              have M5 := hid hM
              have ML : M ≤ N + 1 := by rw [hM]; exact MN.out
              clear hO2 hM hg cF cW ma pa lx ly Y10 MN OO2 hpq
              by_cases hxq : x.b = q
              · have z9 : (x.b == q) = true := beq_iff_eq.2 hxq
                have FR := hid ((fr_left HX.out HY.out (by rw [← HQ.out]; exact hxq)).1 (by rw [← HQ.out, ← HP.out]; exact HPQ.out))
                rw [← HQ.out] at FR
                clear hxq
                go_wp2
                go_roundw
                case rel => exact ⟨V2, i' + 1, j', M, rfl, by simp, rfl, by omega, by omega, by omega, hid (by rw [FR.out]; exact M5.out), hid (by rw [FR.out]; exact O5.out), BC5⟩
                case measure => simp [intOf]; omega
              · have z9 : (x.b == q) = false := beq_eq_false_iff_ne.2 hxq
                have FR := hid ((fr_right HX.out HY.out (by rw [← HQ.out]; exact hxq)).1 (by rw [← HQ.out, ← HP.out]; exact HPQ.out))
                rw [← HQ.out] at FR
                clear hxq
                go_wp2
                go_roundw
                case rel => exact ⟨V2, i', j' + 1, M, rfl, rfl, by simp, by omega, by omega, by omega, hid (by rw [FR.out]; exact M5.out), hid (by rw [FR.out]; exact O5.out), BC5⟩
                case measure => simp [intOf]; omega
            · have z : decide (p ≤ q) = false := decide_eq_false hpq
              have m1 := X10.out.cell 1 _ rfl
              have lx := X10.out.lt
              have HPQ := hid hpq
              have HP := hid hp
              have HQ := hid hq
              clear hp hq hpq
              by_cases hxq : x.b = q
              · have z9 : (x.b == q) = true := beq_iff_eq.2 hxq
                have FR := hid ((fr_left HX.out HY.out (by rw [← HQ.out]; exact hxq)).2 (by rw [← HQ.out, ← HP.out]; exact HPQ.out))
                clear hxq
                go_wp2
                go_roundw
                case rel => exact ⟨V, i' + 1, j', N, rfl, by simp, rfl, by omega, by omega, by omega, hid (by rw [FR.out]; exact hN.out), hid (by rw [FR.out]; exact OO2.out), BC2⟩
                case measure => simp [intOf]; omega
              · have z9 : (x.b == q) = false := beq_eq_false_iff_ne.2 hxq
                have FR := hid ((fr_right HX.out HY.out (by rw [← HQ.out]; exact hxq)).2 (by rw [← HQ.out, ← HP.out]; exact HPQ.out))
                clear hxq
                go_wp2
                go_roundw
                case rel => exact ⟨V, i', j' + 1, N, rfl, rfl, by simp, by omega, by omega, by omega, hid (by rw [FR.out]; exact hN.out), hid (by rw [FR.out]; exact OO2.out), BC2⟩
                case measure => simp [intOf]; omega
      · have z2 : ¬ (j' : Int) < (n2 : Int) := by omega
        have EA := both_end (i := i') (j := j') HZ.out (.inr (by have := HN2.out; omega))
        have oo := hO.out
        have EN := hN.out
        rw [EA] at oo EN
        subst EN
        have BX := (XX.out wr hb.out).2.2.1
        obtain ⟨ao2, cp, e, RF, X7, KA⟩ := fin_int (k1 := k3) oo (by have := HB.out; omega) (by have := OK.out Z.length; rwa [List.take_length] at this) BX
        subst e
        have e0 := BX.cell 0 _ rfl
        have f0 := BX.free 0
        have l0 := BX.lt
        have RF := hid RF
        have X7 := hid X7
        have KA := hid KA
        have BF := hid ((XX.out wr hb.out).2.2.2.setCell (p := ⟨k3, 0, none⟩) (by have := HB.out; show w.heap.size ≤ k3; omega) (.slice ao2 (runsF (max k k') Z).length cp))
        clear EA oo hN hO BX
        go_wp2
        refine bodyPost_ret (v := .agg #[.slice ao2 (runsF (max k k') Z).length cp]) ?_ rfl ⟨⟨ao2, cp, rfl, RF.out, fun ad e => by have := KA.out ad e; have := HB.out; omega⟩, BF.out⟩
        exact Md.results_mid rfl _ _ k3 [.slice ao2 (runsF (max k k') Z).length cp] _ rfl (fun j u h => by rw [Nat.zero_add]; exact X7.out.cell j u h) Try.underlying27 rfl (by kernel_rfl)
    · have z2 : ¬ (i' : Int) < (n1 : Int) := by omega
      have EA := both_end (i := i') (j := j') HZ.out (.inl (by have := HN1.out; omega))
      have oo := hO.out
      have EN := hN.out
      rw [EA] at oo EN
      subst EN
      have BX := (XX.out wr hb.out).2.2.1
      obtain ⟨ao2, cp, e, RF, X7, KA⟩ := fin_int (k1 := k3) oo (by have := HB.out; omega) (by have := OK.out Z.length; rwa [List.take_length] at this) BX
      subst e
      have e0 := BX.cell 0 _ rfl
      have f0 := BX.free 0
      have l0 := BX.lt
      have RF := hid RF
      have X7 := hid X7
      have KA := hid KA
      have BF := hid ((XX.out wr hb.out).2.2.2.setCell (p := ⟨k3, 0, none⟩) (by have := HB.out; show w.heap.size ≤ k3; omega) (.slice ao2 (runsF (max k k') Z).length cp))
      clear EA oo hN hO BX
      go_wp2
      refine bodyPost_ret (v := .agg #[.slice ao2 (runsF (max k k') Z).length cp]) ?_ rfl ⟨⟨ao2, cp, rfl, RF.out, fun ad e => by have := KA.out ad e; have := HB.out; omega⟩, BF.out⟩
      exact Md.results_mid rfl _ _ k3 [.slice ao2 (runsF (max k k') Z).length cp] _ rfl (fun j u h => by rw [Nat.zero_add]; exact X7.out.cell j u h) Try.underlying27 rfl (by kernel_rfl)
end Go.Proofs.Ytghhnimimccpoaa.Li
/- Package line: what LineZips asks of it. -/
namespace Go.Proofs.Ytghhnimimccpoaa.Li
open Go.RowKit Go.Sort Go.Shelf P Mm R6 R14 L14
theorem zip_both (f : Int → Int → Int) (k : Int) (l : List Int) (k' : Int) (l' : List Int) : Both f k l k' l' (zipL f k l k' l') := fun i => by
  rw [R14.zip_get]
  rcases atL k l (max k k' + (i : Int)) with _ | x <;> rcases atL k' l' (max k k' + (i : Int)) with _ | y <;> rfl
theorem zip_ok {f : Int → Int → Int} {k : Int} {l : List Int} {k' : Int} {l' : List Int} (hp : Ply k l) (hp' : Ply k' l') (hf : ∀ a ∈ l, ∀ b, I64 (f a b)) : ∀ c, ∀ r ∈ runsF (max k k') ((zipL f k l k' l').take c), RnOk r := fun c => by
  obtain ⟨h1, h2, h3, -⟩ := hp
  obtain ⟨g1, g2, -⟩ := hp'
  have hb := both_in (f := f) (k := k) (l := l) (k' := k') (l' := l') (Z := zipL f k l k' l') (zip_both f k l k' l')
  refine rn_ok (by omega) (by omega) (by rw [List.length_take]; omega) (fun v hv => ?_)
  obtain ⟨a, ha, b, rfl⟩ := hb.2 v (List.take_subset _ _ hv)
  exact hf a ha b
theorem lnz : LnZ := ⟨fun k l ao cap k' l' bo bcap w hr hp hr' hp' =>
  (zip_int 23 #[] (enters_of Try.func23 (by kernel_rfl) rfl) mixF k l ao cap k' l' bo bcap w (fun a b W _ => mix_any a b W) hr hr' hp.2.2.2.2 hp'.2.2.2.2 (zipL mixF k l k' l') (zip_both mixF k l k' l') (zip_ok hp hp' (fun a _ b => mix_in a b))).mono
    fun _ _ ⟨⟨ao', cap', h1, h2, _⟩, h3⟩ => ⟨⟨ao', cap', h1, h2⟩, h3⟩⟩
end Go.Proofs.Ytghhnimimccpoaa.Li
/- Package line, walked: Map. -/
namespace Go.Proofs.Ytghhnimimccpoaa.Li
open Go.RowKit Go.Sort Go.Shelf P Mm R6 R14 L14
/-- How far a line is gone through. -/
def mpC (k : Int) (l : List Int) (i : Nat) : Nat := (stC k (runsF k l) i - k).toNat
theorem mpC_zero (k : Int) (l : List Int) : mpC k l 0 = 0 := by
  unfold mpC
  rw [stC_zero (chain_runs l k)]
  omega
theorem mpC_end {k : Int} {l : List Int} {i : Nat} (h : (runsF k l).length ≤ i) : mpC k l i = l.length := by
  unfold mpC stC
  rw [List.getElem?_eq_none h, exp_runs]
  show (k + (l.length : Int) - k).toNat = l.length
  omega
theorem mp_more {γ : Type} [DecidableEq γ] (g : Int → γ) {k : Int} {l : List Int} {i : Nat} {r : Rn Int} (h : (runsF k l)[i]? = some r) :
    withR (runsF k ((l.map g).take (mpC k l i))) ⟨r.a, r.b, g r.v⟩ = runsF k ((l.map g).take (mpC k l (i + 1))) := by
  have q := chain_in _ k (chain_runs l k) r (List.mem_of_getElem? h)
  unfold mpC
  rw [stC_succ (chain_runs l k) h, stC_at h]
  obtain ⟨c, hc⟩ : ∃ c : Nat, (c : Int) = r.a - k := ⟨(r.a - k).toNat, by omega⟩
  obtain ⟨n, hn⟩ : ∃ n : Nat, (n : Int) = r.b - r.a := ⟨(r.b - r.a).toNat, by omega⟩
  have z := zip_more (Z := l.map g) (m := k) (c := c) (n := n) (v := g r.v) (fun t ht => by
    have e := at_run h (x := k + ((c + t : Nat) : Int)) (by omega) (by omega)
    unfold atL at e
    rw [if_neg (by omega), show (k + ((c + t : Nat) : Int) - k).toNat = c + t by omega] at e
    rw [List.getElem?_map, e]
    rfl)
  unfold withR
  rw [if_neg (Int.not_lt.2 q.2), show (r.a - k).toNat = c by omega, show (r.b + 1 - k).toNat = c + n + 1 by omega, ← z, show r.a = k + (c : Int) by omega, show r.b = k + (c : Int) + (n : Int) by omega]
set_option maxHeartbeats 4000000 in
set_option maxRecDepth 100000 in
theorem map_int (F : Nat) (hen : ∀ args W, (callFunc F args).run Try.prog W = .ok (.enter F args) W) (g : Int → Int) (k : Int) (l : List Int) (ao : Option Addr) (cap : Nat) (w : World)
    (hf : ∀ a W, a ∈ l → Calls Try.prog F #[.int .i64 a] W fun e W' => e = .returned (.int .i64 (g a)) ∧ Below W.heap.size W W') (hr : Row tRn w ao (runsF k l).length cap (runsF k l)) (hn : (runsF k l).length ≤ 100000) (hok : ∀ c, ∀ r ∈ runsF k ((l.map g).take c), RnOk r) :
    Calls Try.prog 25 #[.agg #[.slice ao (runsF k l).length cap], .func (.func F) #[] #[]] w fun e w' => (∃ ao' cap', e = .returned (.agg #[.slice ao' (runsF k (l.map g)).length cap']) ∧ Row tRn w' ao' (runsF k (l.map g)).length cap' (runsF k (l.map g))) ∧ Below w.heap.size w w' := by
  obtain ⟨n1, hn1⟩ : ∃ n, n = (runsF k l).length := ⟨_, rfl⟩
  rw [← hn1] at hr hn ⊢
  obtain ⟨w1, hw1⟩ : ∃ W, W = w.alloc (.cells ([.slice ao n1 cap] : List Value).toArray 27) := ⟨_, rfl⟩
  obtain ⟨k1, hk1⟩ : ∃ k, k = w.heap.size := ⟨_, rfl⟩
  have b1 : Below w.heap.size w w1 := by rw [hw1]; exact bel_alloc _ _
  have X1 : Box w1 k1 [.slice ao n1 cap] := by rw [hw1, hk1]; exact Box.new w _ _
  obtain ⟨w3, hw3⟩ : ∃ W, W = w1.alloc (.cells ([.slice none 0 0] : List Value).toArray 27) := ⟨_, rfl⟩
  obtain ⟨k3, hk3⟩ : ∃ k, k = w1.heap.size := ⟨_, rfl⟩
  have b3 : Below w1.heap.size w1 w3 := by rw [hw3]; exact bel_alloc _ _
  have X3 : Box w3 k3 [.slice none 0 0] := by rw [hw3, hk3]; exact Box.new w1 _ _
  obtain ⟨n0, hn0⟩ : ∃ n, n = w3.heap.size := ⟨_, rfl⟩
  have e1 : w1.heap.size = w.heap.size + 1 := by rw [hw1]; simp
  have e3 : w3.heap.size = w.heap.size + 2 := by rw [hw3]; simp [e1]
  have HB := hid (show w.heap.size ≤ k1 ∧ k1 < k3 ∧ k3 < n0 ∧ n0 = w3.heap.size by omega)
  have b03 := bel_on b1 b3
  have XX := hid (fun (W : World) (b : Below w3.heap.size w3 W) => (⟨(X1.on b3).on b, X3.on b, bel_on b03 b⟩ : Box W k1 [.slice ao n1 cap] ∧ Box W k3 [.slice none 0 0] ∧ Below w.heap.size w W))
  have HR := hid (fun (W : World) (b : Below w3.heap.size w3 W) => hr.on (bel_on b03 b))
  have HF := hid hf
  have OK := hid hok
  have HN1 := hid hn1
  have B0 := hid (Below.refl w3.heap.size w3)
  have HW := hid (show w3 = (w.alloc (.cells #[.slice ao n1 cap] 27)).alloc (.cells #[.slice none 0 0] 27) by rw [hw3, hw1])
  have HK1 := hid hk1
  have HK3 := hid (show k3 = w.heap.size + 1 by omega)
  have HEN := hid hen
  have lm := hr.hmax
  have lc := hr.hcap
  have c0 := (X1.on b3).cell 0 _ rfl
  have l1 := (X1.on b3).lt
  clear hw1 hk1 X1 b1 hw3 hk3 X3 b3 hr hok e1 e3 hn0 hn1 b03 hf
  go_enter Try.func25, Try.ntmps25
  go_upto_region 1 with fail
  rw [← HW.out, ← HK3.out, ← HK1.out]
  clear HW HK1 HK3
  go_wp2
  clear c0 l1
  go_loopw [5, 11] (fun v i wr => ∃ (V : Value) (i' N : Nat), V = v ∧ i = .int .i64 (i' : Int) ∧ i' ≤ n1 ∧ N ≤ i' ∧ Hid (N = (runsF k ((l.map g).take (mpC k l i'))).length) ∧ Hid (wr.ownsRow n0 69 3 V N ((runsF k ((l.map g).take (mpC k l i'))).flatMap rnC)) ∧ Hid (Below w3.heap.size w3 wr)) (fun _ i _ => n1 - (intOf i).toNat)
  case atStart => exact ⟨_, 0, 0, rfl, rfl, Nat.zero_le _, Nat.le_refl _, hid (by rw [mpC_zero]; rfl), hid (by rw [mpC_zero]; exact World.ownsRow_nil _ _ _ _), B0⟩
  case round =>
    obtain ⟨V, i', N, rfl, rfl, hi, hNN, hN, hO, hb⟩ := hrel
    clear B0
    by_cases hlt : i' < n1
    · obtain ⟨x, hx⟩ : ∃ x, (runsF k l)[i']? = some x := ⟨_, List.getElem?_eq_getElem (by have := HN1.out; omega)⟩
      obtain ⟨gb, go, eg, lg, s0, s1, s2, -⟩ := rn_at (HR.out wr hb.out) hx
      subst eg
      have i0 : (i' : Int) < (n1 : Int) := by omega
      have i2 : (0 : Int) ≤ (i' : Int) := by omega
      obtain ⟨w4, hw4⟩ : ∃ W, W = wr.alloc (.cells ([.int .i64 x.a, .int .i64 x.b, .int .i64 x.v] : List Value).toArray 69) := ⟨_, rfl⟩
      obtain ⟨g7, hg7⟩ : ∃ g, g = wr.heap.size := ⟨_, rfl⟩
      have b4 : Below wr.heap.size wr w4 := by rw [hw4]; exact bel_alloc _ _
      have X7 : Box w4 g7 [.int .i64 x.a, .int .i64 x.b, .int .i64 x.v] := by rw [hw4, hg7]; exact Box.new wr _ _
      have HX := hid hx
      have XM : x.v ∈ l := by
        have := (P.runs_in l k x (List.mem_of_getElem? hx)).2.2.2
        exact this
      have HC := hid (HF.out x.v · XM)
      have KV := hid (fun (j : Nat) (e : V.ownBlock = some j) => hO.out.lt j e)
      have OO := hid (owns_on hO.out b4)
      have B4 := hid (bel_on hb.out b4)
      have NB := hid (show n0 ≤ w4.heap.size by have := HB.out; have := B4.out.size; omega)
      have k0 := cell_regrown (X7.cell 0 _ rfl)
      have k2 := cell_regrown (X7.cell 1 _ rfl)
      have k4 := cell_regrown (X7.cell 2 _ rfl)
      have qF := fun dd os => Calls.regrown_of (HC.out (grow (redrawn w4 dd) os))
      have HW4 := hid hw4
      have HG7 := hid hg7
      have hen := HEN.out
      clear hx hw4 hg7 b4 X7 hO hb XM
      go_upto_region 5 with fail
      rw [← HW4.out, ← HG7.out]
      clear HW4 HG7 s0 s1 s2 lg i0 i2
      refine Tl.region_tail_below 9 (by kernel_rfl) (by kernel_rfl) ?_
      simp only [List.take_succ_cons, List.take_zero, List.drop_succ_cons, List.drop_zero]
      repeat (go_big_quiet_step ((exact qF _ _)))
      refine wpQuiet_nil ?_
      intro _ hw'
      obtain ⟨⟨dq, osq⟩, hw''⟩ := hw'
      subst hw''
      obtain ⟨wz, hwz⟩ : ∃ wz, wz = grow (redrawn w4 dq) osq := ⟨_, rfl⟩
      have bz : Below w4.heap.size w4 wz := by rw [hwz]; exact below_regrown w4 dq osq
      rw [← hwz]
      clear hwz k0 k2 k4 qF hen
      have BC2 := hid (bel_on B4.out bz)
      have OO2 := hid (owns_on OO.out bz)
      have NB2 := hid (Nat.le_trans NB.out bz.size)
      have cW := hid (with_int (runsF k ((l.map g).take (mpC k l i'))) V n0 N x.a x.b (g x.v) wz hN.out OO2.out (OK.out _) NB2.out (by omega))
      have ML0 := hid (with_len (runsF k ((l.map g).take (mpC k l i'))) ⟨x.a, x.b, g x.v⟩)
      rw [mp_more g HX.out] at cW ML0
      clear bz OO NB B4
      go_wp2_with fail
      refine cW.out.mono ?_
      rintro e w5 ⟨V2, M, rfl, hM, hO2, hg⟩
      have BC5 := hid (BC2.out.grown hg BC2.out.size (fun j e => by have := (KV.out j e).1; have := HB.out; omega))
      have O5 := hid hO2
      have M5 := hid hM
      have ML : M ≤ i' + 1 := by have := ML0.out; have := hN.out; omega
      clear hO2 hM hg cW OO2
      go_wp2
      go_roundw
      case rel => exact ⟨V2, i' + 1, M, rfl, by simp, by omega, by omega, M5, O5, BC5⟩
      case measure => simp [intOf]; omega
    · have EA : (l.map g).take (mpC k l i') = l.map g := by
        rw [mpC_end (by have := HN1.out; omega)]
        exact List.take_of_length_le (by rw [List.length_map]; exact Nat.le_refl _)
      have oo := hO.out
      have EN := hN.out
      rw [EA] at oo EN
      subst EN
      have BX := (XX.out wr hb.out).2.1
      obtain ⟨ao2, cp, e, RF, X7, -⟩ := fin_int (k1 := k3) oo (by have := HB.out; omega) (by have := OK.out (l.map g).length; rwa [List.take_length] at this) BX
      subst e
      have e0 := BX.cell 0 _ rfl
      have f0 := BX.free 0
      have l0 := BX.lt
      have RF := hid RF
      have X7 := hid X7
      have BF := hid ((XX.out wr hb.out).2.2.setCell (p := ⟨k3, 0, none⟩) (by have := HB.out; show w.heap.size ≤ k3; omega) (.slice ao2 (runsF k (l.map g)).length cp))
      clear EA oo hN hO BX
      go_wp2
      refine bodyPost_ret (v := .agg #[.slice ao2 (runsF k (l.map g)).length cp]) ?_ rfl ⟨⟨ao2, cp, rfl, RF.out⟩, BF.out⟩
      exact Md.results_mid rfl _ _ k3 [.slice ao2 (runsF k (l.map g)).length cp] _ rfl (fun j u h => by rw [Nat.zero_add]; exact X7.out.cell j u h) Try.underlying27 rfl (by kernel_rfl)
theorem fin_string {W : World} {k1 n0 : Nat} {V cv : Value} {R : List (Rn ByteArray)} (oo : W.ownsRow n0 84 3 V R.length (R.flatMap rsC)) (hk : k1 < n0) (hok : ∀ r ∈ R, RsOk r) (BX : Box W k1 [cv]) :
    ∃ ao cp, V = .slice ao R.length cp ∧ Row tRs (W.setCell ⟨k1, 0, none⟩ (.slice ao R.length cp)) ao R.length cp R ∧ Box (W.setCell ⟨k1, 0, none⟩ (.slice ao R.length cp)) k1 [.slice ao R.length cp] := by
  obtain ⟨ao, cp, rfl, -⟩ := row_own (n := 3) (cells := rsC) (ok := RsOk) (hn := fun _ => rfl) oo hok
  have o2 := other_own oo (k := k1) (i := 0) hk (.slice ao R.length cp)
  obtain ⟨ao3, cp3, e3, R3⟩ := row_own (n := 3) (cells := rsC) (ok := RsOk) (hn := fun _ => rfl) o2 hok
  simp only [Value.slice.injEq] at e3
  obtain ⟨rfl, -, rfl⟩ := e3
  exact ⟨ao, cp, rfl, R3, BX.set 0 _⟩
set_option maxHeartbeats 4000000 in
set_option maxRecDepth 100000 in
theorem map_string (F : Nat) (hen : ∀ args W, (callFunc F args).run Try.prog W = .ok (.enter F args) W) (g : Int → ByteArray) (k : Int) (l : List Int) (ao : Option Addr) (cap : Nat) (w : World)
    (hf : ∀ a W, a ∈ l → Calls Try.prog F #[.int .i64 a] W fun e W' => e = .returned (.string (g a)) ∧ Below W.heap.size W W') (hr : Row tRn w ao (runsF k l).length cap (runsF k l)) (hn : (runsF k l).length ≤ 100000) (hok : ∀ c, ∀ r ∈ runsF k ((l.map g).take c), RsOk r) :
    Calls Try.prog 29 #[.agg #[.slice ao (runsF k l).length cap], .func (.func F) #[] #[]] w fun e w' => (∃ ao' cap', e = .returned (.agg #[.slice ao' (runsF k (l.map g)).length cap']) ∧ Row tRs w' ao' (runsF k (l.map g)).length cap' (runsF k (l.map g))) ∧ Below w.heap.size w w' := by
  obtain ⟨n1, hn1⟩ : ∃ n, n = (runsF k l).length := ⟨_, rfl⟩
  rw [← hn1] at hr hn ⊢
  obtain ⟨w1, hw1⟩ : ∃ W, W = w.alloc (.cells ([.slice ao n1 cap] : List Value).toArray 27) := ⟨_, rfl⟩
  obtain ⟨k1, hk1⟩ : ∃ k, k = w.heap.size := ⟨_, rfl⟩
  have b1 : Below w.heap.size w w1 := by rw [hw1]; exact bel_alloc _ _
  have X1 : Box w1 k1 [.slice ao n1 cap] := by rw [hw1, hk1]; exact Box.new w _ _
  obtain ⟨w3, hw3⟩ : ∃ W, W = w1.alloc (.cells ([.slice none 0 0] : List Value).toArray 58) := ⟨_, rfl⟩
  obtain ⟨k3, hk3⟩ : ∃ k, k = w1.heap.size := ⟨_, rfl⟩
  have b3 : Below w1.heap.size w1 w3 := by rw [hw3]; exact bel_alloc _ _
  have X3 : Box w3 k3 [.slice none 0 0] := by rw [hw3, hk3]; exact Box.new w1 _ _
  obtain ⟨n0, hn0⟩ : ∃ n, n = w3.heap.size := ⟨_, rfl⟩
  have e1 : w1.heap.size = w.heap.size + 1 := by rw [hw1]; simp
  have e3 : w3.heap.size = w.heap.size + 2 := by rw [hw3]; simp [e1]
  have HB := hid (show w.heap.size ≤ k1 ∧ k1 < k3 ∧ k3 < n0 ∧ n0 = w3.heap.size by omega)
  have b03 := bel_on b1 b3
  have XX := hid (fun (W : World) (b : Below w3.heap.size w3 W) => (⟨(X1.on b3).on b, X3.on b, bel_on b03 b⟩ : Box W k1 [.slice ao n1 cap] ∧ Box W k3 [.slice none 0 0] ∧ Below w.heap.size w W))
  have HR := hid (fun (W : World) (b : Below w3.heap.size w3 W) => hr.on (bel_on b03 b))
  have HF := hid hf
  have OK := hid hok
  have HN1 := hid hn1
  have B0 := hid (Below.refl w3.heap.size w3)
  have HW := hid (show w3 = (w.alloc (.cells #[.slice ao n1 cap] 27)).alloc (.cells #[.slice none 0 0] 58) by rw [hw3, hw1])
  have HK1 := hid hk1
  have HK3 := hid (show k3 = w.heap.size + 1 by omega)
  have HEN := hid hen
  have lm := hr.hmax
  have lc := hr.hcap
  have c0 := (X1.on b3).cell 0 _ rfl
  have l1 := (X1.on b3).lt
  clear hw1 hk1 X1 b1 hw3 hk3 X3 b3 hr hok e1 e3 hn0 hn1 b03 hf
  go_enter Try.func29, Try.ntmps29
  go_upto_region 1 with fail
  rw [← HW.out, ← HK3.out, ← HK1.out]
  clear HW HK1 HK3
  go_wp2
  clear c0 l1
  go_loopw [5, 11] (fun v i wr => ∃ (V : Value) (i' N : Nat), V = v ∧ i = .int .i64 (i' : Int) ∧ i' ≤ n1 ∧ N ≤ i' ∧ Hid (N = (runsF k ((l.map g).take (mpC k l i'))).length) ∧ Hid (wr.ownsRow n0 84 3 V N ((runsF k ((l.map g).take (mpC k l i'))).flatMap rsC)) ∧ Hid (Below w3.heap.size w3 wr)) (fun _ i _ => n1 - (intOf i).toNat)
  case atStart => exact ⟨_, 0, 0, rfl, rfl, Nat.zero_le _, Nat.le_refl _, hid (by rw [mpC_zero]; rfl), hid (by rw [mpC_zero]; exact World.ownsRow_nil _ _ _ _), B0⟩
  case round =>
    obtain ⟨V, i', N, rfl, rfl, hi, hNN, hN, hO, hb⟩ := hrel
    clear B0
    by_cases hlt : i' < n1
    · obtain ⟨x, hx⟩ : ∃ x, (runsF k l)[i']? = some x := ⟨_, List.getElem?_eq_getElem (by have := HN1.out; omega)⟩
      obtain ⟨gb, go, eg, lg, s0, s1, s2, -⟩ := rn_at (HR.out wr hb.out) hx
      subst eg
      have i0 : (i' : Int) < (n1 : Int) := by omega
      have i2 : (0 : Int) ≤ (i' : Int) := by omega
      obtain ⟨w4, hw4⟩ : ∃ W, W = wr.alloc (.cells ([.int .i64 x.a, .int .i64 x.b, .int .i64 x.v] : List Value).toArray 69) := ⟨_, rfl⟩
      obtain ⟨g7, hg7⟩ : ∃ g, g = wr.heap.size := ⟨_, rfl⟩
      have b4 : Below wr.heap.size wr w4 := by rw [hw4]; exact bel_alloc _ _
      have X7 : Box w4 g7 [.int .i64 x.a, .int .i64 x.b, .int .i64 x.v] := by rw [hw4, hg7]; exact Box.new wr _ _
      have HX := hid hx
      have XM : x.v ∈ l := by
        have := (P.runs_in l k x (List.mem_of_getElem? hx)).2.2.2
        exact this
      have HC := hid (HF.out x.v · XM)
      have KV := hid (fun (j : Nat) (e : V.ownBlock = some j) => hO.out.lt j e)
      have OO := hid (owns_on hO.out b4)
      have B4 := hid (bel_on hb.out b4)
      have NB := hid (show n0 ≤ w4.heap.size by have := HB.out; have := B4.out.size; omega)
      have k0 := cell_regrown (X7.cell 0 _ rfl)
      have k2 := cell_regrown (X7.cell 1 _ rfl)
      have k4 := cell_regrown (X7.cell 2 _ rfl)
      have qF := fun dd os => Calls.regrown_of (HC.out (grow (redrawn w4 dd) os))
      have HW4 := hid hw4
      have HG7 := hid hg7
      have hen := HEN.out
      clear hx hw4 hg7 b4 X7 hO hb XM
      go_upto_region 5 with fail
      rw [← HW4.out, ← HG7.out]
      clear HW4 HG7 s0 s1 s2 lg i0 i2
      refine Tl.region_tail_below 9 (by kernel_rfl) (by kernel_rfl) ?_
      simp only [List.take_succ_cons, List.take_zero, List.drop_succ_cons, List.drop_zero]
      repeat (go_big_quiet_step ((exact qF _ _)))
      refine wpQuiet_nil ?_
      intro _ hw'
      obtain ⟨⟨dq, osq⟩, hw''⟩ := hw'
      subst hw''
      obtain ⟨wz, hwz⟩ : ∃ wz, wz = grow (redrawn w4 dq) osq := ⟨_, rfl⟩
      have bz : Below w4.heap.size w4 wz := by rw [hwz]; exact below_regrown w4 dq osq
      rw [← hwz]
      clear hwz k0 k2 k4 qF hen
      have BC2 := hid (bel_on B4.out bz)
      have OO2 := hid (owns_on OO.out bz)
      have NB2 := hid (Nat.le_trans NB.out bz.size)
      have cW := hid (with_string (runsF k ((l.map g).take (mpC k l i'))) V n0 N x.a x.b (g x.v) wz hN.out OO2.out (OK.out _) NB2.out (by omega))
      have ML0 := hid (with_len (runsF k ((l.map g).take (mpC k l i'))) ⟨x.a, x.b, g x.v⟩)
      rw [mp_more g HX.out] at cW ML0
      clear bz OO NB B4
      go_wp2_with fail
      refine cW.out.mono ?_
      rintro e w5 ⟨V2, M, rfl, hM, hO2, hg⟩
      have BC5 := hid (BC2.out.grown hg BC2.out.size (fun j e => by have := (KV.out j e).1; have := HB.out; omega))
      have O5 := hid hO2
      have M5 := hid hM
      have ML : M ≤ i' + 1 := by have := ML0.out; have := hN.out; omega
      clear hO2 hM hg cW OO2
      go_wp2
      go_roundw
      case rel => exact ⟨V2, i' + 1, M, rfl, by simp, by omega, by omega, M5, O5, BC5⟩
      case measure => simp [intOf]; omega
    · have EA : (l.map g).take (mpC k l i') = l.map g := by
        rw [mpC_end (by have := HN1.out; omega)]
        exact List.take_of_length_le (by rw [List.length_map]; exact Nat.le_refl _)
      have oo := hO.out
      have EN := hN.out
      rw [EA] at oo EN
      subst EN
      have BX := (XX.out wr hb.out).2.1
      obtain ⟨ao2, cp, e, RF, X7⟩ := fin_string (k1 := k3) oo (by have := HB.out; omega) (by have := OK.out (l.map g).length; rwa [List.take_length] at this) BX
      subst e
      have e0 := BX.cell 0 _ rfl
      have f0 := BX.free 0
      have l0 := BX.lt
      have RF := hid RF
      have X7 := hid X7
      have BF := hid ((XX.out wr hb.out).2.2.setCell (p := ⟨k3, 0, none⟩) (by have := HB.out; show w.heap.size ≤ k3; omega) (.slice ao2 (runsF k (l.map g)).length cp))
      clear EA oo hN hO BX
      go_wp2
      refine bodyPost_ret (v := .agg #[.slice ao2 (runsF k (l.map g)).length cp]) ?_ rfl ⟨⟨ao2, cp, rfl, RF.out⟩, BF.out⟩
      exact Md.results_mid rfl _ _ k3 [.slice ao2 (runsF k (l.map g)).length cp] _ rfl (fun j u h => by rw [Nat.zero_add]; exact X7.out.cell j u h) Try.underlying58 rfl (by kernel_rfl)
end Go.Proofs.Ytghhnimimccpoaa.Li
