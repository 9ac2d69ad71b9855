/- What the document's answers for layer 2 (poundageref02) come to. -/
import Derived.Test.YtpmibknabckboaaRef1b
import Derived.Deep.CutBlock
import Derived.Deep.CutRange
import Derived.Deep.DeepCutAuto
import Derived.Deep.LoopGhost
import Derived.LoopN
import Derived.Deep.RegionHeld3
namespace Go.Proofs.Ytpmibknabckboaa.R2
open Go.RowKit P Ex R1

/-- A wide number's parts, written out. -/
theorem W_parts (v : Int) : W v = .agg #[.bool (decide (v < 0)), .int .u64 (hiN v.natAbs), .int .u64 (loN v.natAbs)] := rfl
/-- A block of three cells just laid: what they hold, and that it may be written. -/
theorem laid3 (w : World) (a b c : Value) (t : TypeId) :
    (w.alloc (.cells #[a, b, c] t)).cell? ⟨w.heap.size, 0, none⟩ = some a ∧ (w.alloc (.cells #[a, b, c] t)).cell? ⟨w.heap.size, 1, none⟩ = some b ∧ (w.alloc (.cells #[a, b, c] t)).cell? ⟨w.heap.size, 2, none⟩ = some c ∧
    (w.alloc (.cells #[a, b, c] t)).frozen? ⟨w.heap.size, 0, none⟩ = false ∧ (w.alloc (.cells #[a, b, c] t)).frozen? ⟨w.heap.size, 1, none⟩ = false ∧ (w.alloc (.cells #[a, b, c] t)).frozen? ⟨w.heap.size, 2, none⟩ = false := by
  refine ⟨?_, ?_, ?_, ?_, ?_, ?_⟩ <;> go_simp

/-- Behind a call: below what was there when w was, nothing has turned. -/
theorem below_on {w W w1 : World} (h : Below w.heap.size w W) (hb : Below W.heap.size W w1) : Below w.heap.size w w1 := below_via h hb (Below.size h)
theorem alloc_on {w W : World} (h : Below w.heap.size w W) (o : Obj) : Below w.heap.size w (W.alloc o) := h.alloc (Below.size h) o
/-- Three cells of a block, and that they may be written. -/
structure Lies3 (w : World) (k : Nat) (a b c : Value) : Prop where
  lt : k < w.heap.size
  c0 : w.cell? ⟨k, 0, none⟩ = some a
  c1 : w.cell? ⟨k, 1, none⟩ = some b
  c2 : w.cell? ⟨k, 2, none⟩ = some c
  f0 : w.frozen? ⟨k, 0, none⟩ = false
  f1 : w.frozen? ⟨k, 1, none⟩ = false
  f2 : w.frozen? ⟨k, 2, none⟩ = false
theorem Lies3.on {w W : World} {k : Nat} {a b c : Value} (h : Lies3 w k a b c) (hb : Below w.heap.size w W) : Lies3 W k a b c := by
  obtain ⟨hc, hf⟩ := bcell hb
  exact ⟨Nat.lt_of_lt_of_le h.lt (Below.size hb), by rw [hc _ _ h.lt]; exact h.c0, by rw [hc _ _ h.lt]; exact h.c1, by rw [hc _ _ h.lt]; exact h.c2,
    by rw [hf _ _ h.lt]; exact h.f0, by rw [hf _ _ h.lt]; exact h.f1, by rw [hf _ _ h.lt]; exact h.f2⟩
theorem Lies3.new {w : World} {k : Nat} {a b c : Value} {t : TypeId} (hk : w.heap.size = k) : Lies3 (w.alloc (.cells #[a, b, c] t)) k a b c := by
  subst hk
  obtain ⟨h0, h1, h2, h3, h4, h5⟩ := laid3 w a b c t
  exact ⟨by simp, h0, h1, h2, h3, h4, h5⟩
theorem Lies3.later {w w2 : World} {k : Nat} {a b c : Value} {t : TypeId} (hb : Below (w.alloc (.cells #[a, b, c] t)).heap.size (w.alloc (.cells #[a, b, c] t)) w2) (hk : w.heap.size = k) : Lies3 w2 k a b c := (Lies3.new hk).on hb
theorem Lies3.drew {w : World} {k : Nat} {a b c : Value} (h : Lies3 w k a b c) : Lies3 w.drew k a b c := ⟨h.lt, h.c0, h.c1, h.c2, h.f0, h.f1, h.f2⟩
theorem Lies3.later_drew {w w2 : World} {k : Nat} {a b c : Value} {t : TypeId} (hb : Below (w.alloc (.cells #[a, b, c] t)).drew.heap.size (w.alloc (.cells #[a, b, c] t)).drew w2) (hk : w.heap.size = k) : Lies3 w2 k a b c := (Lies3.new hk).drew.on hb
theorem Lies3.set {w : World} {k : Nat} {a b c : Value} (h : Lies3 w k a b c) (a' b' c' : Value) :
    Lies3 (((w.setCell ⟨k, 0, none⟩ a').setCell ⟨k, 1, none⟩ b').setCell ⟨k, 2, none⟩ c') k a' b' c' := by
  obtain ⟨h1, h2, h3, h4, h5, h6, h7⟩ := h
  refine ⟨?_, ?_, ?_, ?_, ?_, ?_, ?_⟩ <;> go_simp
/-- Two wide parameters in their boxes. -/
theorem boxed2 (w : World) (a b c a' b' c' : Value) (t : TypeId) : ∃ w1, (w.alloc (.cells #[a, b, c] t)).alloc (.cells #[a', b', c'] t) = w1 ∧ w1.heap.size = w.heap.size + 1 + 1 ∧ Below w.heap.size w w1 ∧
    w1.cell? ⟨w.heap.size, 0, none⟩ = some a ∧ w1.cell? ⟨w.heap.size, 1, none⟩ = some b ∧ w1.cell? ⟨w.heap.size, 2, none⟩ = some c ∧
    w1.cell? ⟨w.heap.size + 1, 0, none⟩ = some a' ∧ w1.cell? ⟨w.heap.size + 1, 1, none⟩ = some b' ∧ w1.cell? ⟨w.heap.size + 1, 2, none⟩ = some c' := by
  refine ⟨_, rfl, by simp, ((Below.refl _ _).alloc (Nat.le_refl _) _).alloc (by simp) _, ?_, ?_, ?_, ?_, ?_, ?_⟩ <;> go_simp
set_option maxHeartbeats 1000000 in
theorem less_any (u v : Int) (w : World) (hu : u.natAbs < two127) (hv : v.natAbs < two127) :
    Calls Try.prog 36 #[W u, W v] w fun e w' => e = .returned (.bool (decide (u < v))) ∧ Below w.heap.size w w' := by
  obtain ⟨n, hn⟩ : ∃ n, n = -v := ⟨_, rfl⟩
  obtain ⟨z, hz⟩ : ∃ z, z = u + n := ⟨_, rfl⟩
  have E : Hid (decide (z < 0) = decide (u < v)) := by show _ = _; rw [decide_eq_decide]; omega
  have HU := hid hu
  have HN : Hid (n.natAbs < two127) := by show _ < _; rw [hn, Int.natAbs_neg]; exact hv
  have EN := hid hn
  have EZ := hid hz
  clear hu hv hn hz
  rw [W_parts u, W_parts v]
  go_enter Try.func36, Try.ntmps36
  go_wp2_with fail
  obtain ⟨w1, hw, hz, hB, c1, c2, c3, d1, d2, d3⟩ := boxed2 w (.bool (decide (u < 0))) (.int .u64 (hiN u.natAbs)) (.int .u64 (loN u.natAbs)) (.bool (decide (v < 0))) (.int .u64 (hiN v.natAbs)) (.int .u64 (loN v.natAbs)) 30
  rw [hw]
  have HB := hid hB
  have keep : ∀ w', Below w1.heap.size w1 w' → w'.cell? ⟨w.heap.size, 0, none⟩ = some (.bool (decide (u < 0))) ∧ w'.cell? ⟨w.heap.size, 1, none⟩ = some (.int .u64 (hiN u.natAbs)) ∧ w'.cell? ⟨w.heap.size, 2, none⟩ = some (.int .u64 (loN u.natAbs)) ∧
      w'.cell? ⟨w.heap.size + 1, 0, none⟩ = some (.bool (decide (v < 0))) ∧ w'.cell? ⟨w.heap.size + 1, 1, none⟩ = some (.int .u64 (hiN v.natAbs)) ∧ w'.cell? ⟨w.heap.size + 1, 2, none⟩ = some (.int .u64 (loN v.natAbs)) ∧ Below w1.heap.size w1 w' := by
    intro w' hb
    obtain ⟨hc, _⟩ := bcell hb
    exact ⟨by rw [hc _ _ (by omega)]; exact c1, by rw [hc _ _ (by omega)]; exact c2, by rw [hc _ _ (by omega)]; exact c3, by rw [hc _ _ (by omega)]; exact d1, by rw [hc _ _ (by omega)]; exact d2, by rw [hc _ _ (by omega)]; exact d3, hb⟩
  have K := hid keep
  have HZ := hid hz
  clear keep hw hB hz
  go_region_held3 (fun w' => w'.cell? ⟨w.heap.size, 0, none⟩ = some (.bool (decide (u < 0))) ∧ w'.cell? ⟨w.heap.size, 1, none⟩ = some (.int .u64 (hiN u.natAbs)) ∧ w'.cell? ⟨w.heap.size, 2, none⟩ = some (.int .u64 (loN u.natAbs)) ∧
      w'.cell? ⟨w.heap.size + 1, 0, none⟩ = some (.bool (decide (v < 0))) ∧ w'.cell? ⟨w.heap.size + 1, 1, none⟩ = some (.int .u64 (hiN v.natAbs)) ∧ w'.cell? ⟨w.heap.size + 1, 2, none⟩ = some (.int .u64 (loN v.natAbs)) ∧ Below w1.heap.size w1 w')
    ((refine K.out _ ?_; repeat (first | assumption | exact Below.refl _ _ | (refine Below.drew ?_) | (refine below_on ?_ ‹_›) | (refine alloc_on ?_ _) | (refine Below.setCell ?_ (by first | omega | (simp <;> omega)) _))))
    (first
    | (go_at_call 16
       refine (opposite_any v _).mono ?_
       rintro e w2 ⟨rfl, hb1⟩
       have s2 : w1.heap.size ≤ w2.heap.size := by have := hb1.size; first | exact this | (simp at this; omega)
       first | have L := Lies3.later_drew (k := w1.heap.size) hb1 rfl | have L := Lies3.later (k := w1.heap.size) hb1 rfl | skip
       rw [← EN.out, W_parts n])
    | (go_at_call 14
       refine (R1.add_any u n _ HU.out HN.out).mono ?_
       rintro e w3 ⟨rfl, hb2⟩
       have s3 : w2.heap.size ≤ w3.heap.size := by have := hb2.size; first | exact this | (simp at this; omega)
       first
         | (have M := Lies3.later (k := w2.heap.size) hb2 rfl; obtain ⟨l1, l2, l3, l4, l5, l6, l7⟩ := M)
         | (have M := L.on hb2; clear L; obtain ⟨l1, l2, l3, l4, l5, l6, l7⟩ := M)
         | skip
       rw [← EZ.out, W_parts z]))
  all_goals
    go_wp2
    go_ret
    refine ⟨by rw [← E.out]; rfl, below_on HB.out ?_⟩
    repeat (first | assumption | exact Below.refl _ _ | (refine Below.drew ?_) | (refine below_on ?_ ‹_›) | (refine alloc_on ?_ _) | (refine Below.setCell ?_ (by first | omega | (simp <;> omega)) _))
/-- A wide parameter in its box. -/
theorem boxed1 (w : World) (a b c : Value) (t : TypeId) : ∃ w1, w.alloc (.cells #[a, b, c] t) = w1 ∧ w1.heap.size = w.heap.size + 1 ∧ Below w.heap.size w w1 ∧ Lies3 w1 w.heap.size a b c := by
  exact ⟨_, rfl, by simp, (Below.refl _ _).alloc (Nat.le_refl _) _, Lies3.new rfl⟩
set_option maxHeartbeats 1000000 in
theorem under_any (n c p : Int) (w : World) (hn : I64 n) (hc : I64 c) (hp : p.natAbs < two127) :
    Calls Try.prog 33 #[.int .i64 n, .int .i64 c, W p] w fun e w' => e = .returned (.bool (decide (n * c ≤ p))) ∧ Below w.heap.size w w' := by
  obtain ⟨z, hz⟩ : ∃ z, z = n * c := ⟨_, rfl⟩
  have E : Hid ((!(decide (p < z))) = decide (n * c ≤ p)) := by show _ = _; rw [← decide_not, decide_eq_decide]; omega
  have HN := hid hn
  have HC := hid hc
  have HP := hid hp
  have HZ : Hid (z.natAbs < two127) := by show _ < _; rw [hz]; exact prod_lt' hn hc
  have EZ := hid hz
  clear hn hc hp hz
  rw [W_parts p]
  go_enter Try.func33, Try.ntmps33
  go_wp2_with fail
  obtain ⟨w1, hw, hsz, hB, L1⟩ := boxed1 w (.bool (decide (p < 0))) (.int .u64 (hiN p.natAbs)) (.int .u64 (loN p.natAbs)) 30
  rw [hw]
  have HB := hid hB
  have keep : ∀ w', Below w1.heap.size w1 w' → w'.cell? ⟨w.heap.size, 0, none⟩ = some (.bool (decide (p < 0))) ∧ w'.cell? ⟨w.heap.size, 1, none⟩ = some (.int .u64 (hiN p.natAbs)) ∧ w'.cell? ⟨w.heap.size, 2, none⟩ = some (.int .u64 (loN p.natAbs)) ∧ Below w1.heap.size w1 w' :=
    fun w' hb => ⟨(L1.on hb).c0, (L1.on hb).c1, (L1.on hb).c2, hb⟩
  have K := hid keep
  have HSZ := hid hsz
  clear keep hw hB hsz L1
  go_region_held3 (fun w' => w'.cell? ⟨w.heap.size, 0, none⟩ = some (.bool (decide (p < 0))) ∧ w'.cell? ⟨w.heap.size, 1, none⟩ = some (.int .u64 (hiN p.natAbs)) ∧ w'.cell? ⟨w.heap.size, 2, none⟩ = some (.int .u64 (loN p.natAbs)) ∧ Below w1.heap.size w1 w')
    ((refine K.out _ ?_; repeat (first | assumption | exact Below.refl _ _ | (refine Below.drew ?_) | (refine below_on ?_ ‹_›) | (refine alloc_on ?_ _) | (refine Below.setCell ?_ (by first | omega | (simp <;> omega)) _))))
    (first
    | (go_at_call 15
       refine (R1.mul_any n c _ HN.out HC.out).mono ?_
       rintro e w2 ⟨rfl, hb1⟩
       rw [← EZ.out, W_parts z])
    | (go_at_call 36
       refine (less_any p z _ HP.out HZ.out).mono ?_
       rintro e w3 ⟨rfl, hb2⟩))
  all_goals
    go_wp2
    go_ret
    refine ⟨by rw [← E.out]; rfl, below_on HB.out ?_⟩
    repeat (first | assumption | exact Below.refl _ _ | (refine Below.drew ?_) | (refine below_on ?_ ‹_›) | (refine alloc_on ?_ _) | (refine Below.setCell ?_ (by first | omega | (simp <;> omega)) _))
end Go.Proofs.Ytpmibknabckboaa.R2
