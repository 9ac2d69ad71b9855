/- The laws of layer 7: what is played by 'alive'. -/
import Derived.Test.YteelbdcgdkpioaaGreatDoorJPaI
namespace Go.Proofs.YteelbdcgdkpioaaGreatDoor.L07
open Go.RowKit Go.Sort P Mm Md Pa

def txA : List UInt8 := [112, 108, 97, 110, 32, 112, 32, 99, 117, 114, 114, 101, 110, 99, 121, 32, 69, 85, 82, 59, 32, 104, 111, 114, 105, 122, 111, 110, 32, 50, 48, 50, 52, 45, 48, 49, 45, 48, 49, 32, 50, 48, 50, 52, 45, 49, 50, 45, 51, 49, 59, 32, 102, 101, 101, 32, 53, 32, 102, 114, 111, 109, 32, 50, 48, 50, 52, 45, 48, 49, 45, 48, 49, 32, 116, 111, 32, 50, 48, 50, 52, 45, 48, 49, 45, 51, 49, 59]
def txB : List UInt8 := [112, 108, 97, 110, 32, 112, 32, 99, 117, 114, 114, 101, 110, 99, 121, 32, 69, 85, 82, 59, 32, 104, 111, 114, 105, 122, 111, 110, 32, 50, 48, 50, 52, 45, 48, 49, 45, 48, 49, 32, 50, 48, 50, 52, 45, 49, 50, 45, 51, 49, 59, 32, 102, 101, 101, 32, 120, 59]
set_option maxRecDepth 100000 in
theorem parsed_a : (parsed txA).2 = (0, 0, 0) ∧ (parsed txA).1.fees = [⟨5, ⟨true, ⟨2024, 1, 1⟩, ⟨2024, 1, 31⟩⟩, 1, 53⟩] := by decide +kernel
set_option maxRecDepth 100000 in
theorem parsed_b : (parsed txB).2 = (4, 1, 57) := by decide +kernel
def fl3 (r : Int × Int × Int) : Value := .agg #[.int .i64 r.1, .int .i64 r.2.1, .int .i64 r.2.2]
/-- What Parse answers: a plan that lies, and a fault. -/
theorem parse_lies (l : ByteArray) (w : World) (k : Ky w) : Calls Tryz.prog 14 #[.string l] w fun e w' => ∃ ma mc fa fc ca cc, e = .returned (.tuple #[.agg (planC (parsed l.data.toList).1 ma mc fa fc ca cc).toArray, fl3 (parsed l.data.toList).2]) ∧
    PlanLies w' (planC (parsed l.data.toList).1 ma mc fa fc ca cc) (parsed l.data.toList).1 ma mc fa fc ca cc ∧ Below w.heap.size w w' :=
  (parse_any l w k).mono fun _ _ ⟨ma, mc, fa, fc, ca, cc, _, h1, h2, h3, h4⟩ => ⟨ma, mc, fa, fc, ca, cc, h1, lies_of h2 (parsed_fits _) h3.own, h4⟩
/-- A plan's and a fault's block, as a law lays a call's answer: the plan in k, the fault behind it. -/
structure Pf (W : World) (k : Nat) (p : Plan) (ma : Option Addr) (mc : Nat) (fa : Option Addr) (fc : Nat) (ca : Option Addr) (cc : Nat) (x y z : Int) : Prop where
  box : Bx W k (planC p ma mc fa fc ca cc)
  flt : Bx W (k + 1) [.int .i64 x, .int .i64 y, .int .i64 z]
  lies : PlanLies W (planC p ma mc fa fc ca cc) p ma mc fa fc ca cc
theorem Pf.on {W W' : World} {k : Nat} {p : Plan} {ma : Option Addr} {mc : Nat} {fa : Option Addr} {fc : Nat} {ca : Option Addr} {cc : Nat} {x y z : Int} (h : Pf W k p ma mc fa fc ca cc x y z) (b : Below W.heap.size W W') : Pf W' k p ma mc fa fc ca cc x y z := ⟨h.box.on b, h.flt.on b, h.lies.on b⟩
theorem bx_all {w : World} {b : Nat} {us vs : List Value} (h : Bx w b us) (hl : vs.length = us.length) : Bx (w.setCells b 0 vs) b vs := by
  have th := there_of h.cell h.free (n := vs.length) hl
  refine ⟨by rw [size_setCells]; exact h.lt, fun j u hj => ?_, fun j => ?_⟩
  · have := World.rangeAt_setCells_same w b 0 vs th j u hj
    rwa [Nat.zero_add] at this
  · have key : ∀ (vs : List Value) (o : Nat) (w : World), w.frozen? ⟨b, j, none⟩ = false → (w.setCells b o vs).frozen? ⟨b, j, none⟩ = false := by
      intro vs
      induction vs with
      | nil => intro o w h; exact h
      | cons v r ih => intro o w h; exact ih (o + 1) _ (by simpa using h)
    exact key vs 0 w (h.free j)
theorem pf_new {w : World} {p : Plan} {ma : Option Addr} {mc : Nat} {fa : Option Addr} {fc : Nat} {ca : Option Addr} {cc : Nat} {x y z : Int} (h : PlanLies w (planC p ma mc fa fc ca cc) p ma mc fa fc ca cc) (t u : TypeId) :
    Pf ((((((w.alloc (.cells #[.string ⟨#[]⟩, .string ⟨#[]⟩, .int .i64 0, .int .i64 0, .int .i64 0, .int .i64 0, .int .i64 0, .int .i64 0, .slice none 0 0, .slice none 0 0, .slice none 0 0, .int .i64 0, .int .i64 0] t)).alloc (.cells #[.int .i64 0, .int .i64 0, .int .i64 0] u)).setCells w.heap.size 0 (planC p ma mc fa fc ca cc)).setCell ⟨w.heap.size + 1, 0, none⟩ (.int .i64 x)).setCell ⟨w.heap.size + 1, 1, none⟩ (.int .i64 y)).setCell ⟨w.heap.size + 1, 2, none⟩ (.int .i64 z)) w.heap.size p ma mc fa fc ca cc x y z ∧
    Below w.heap.size w ((((((w.alloc (.cells #[.string ⟨#[]⟩, .string ⟨#[]⟩, .int .i64 0, .int .i64 0, .int .i64 0, .int .i64 0, .int .i64 0, .int .i64 0, .slice none 0 0, .slice none 0 0, .slice none 0 0, .int .i64 0, .int .i64 0] t)).alloc (.cells #[.int .i64 0, .int .i64 0, .int .i64 0] u)).setCells w.heap.size 0 (planC p ma mc fa fc ca cc)).setCell ⟨w.heap.size + 1, 0, none⟩ (.int .i64 x)).setCell ⟨w.heap.size + 1, 1, none⟩ (.int .i64 y)).setCell ⟨w.heap.size + 1, 2, none⟩ (.int .i64 z)) := by
  have s1 : (w.alloc (.cells #[.string ⟨#[]⟩, .string ⟨#[]⟩, .int .i64 0, .int .i64 0, .int .i64 0, .int .i64 0, .int .i64 0, .int .i64 0, .slice none 0 0, .slice none 0 0, .slice none 0 0, .int .i64 0, .int .i64 0] t)).heap.size = w.heap.size + 1 := by simp
  have B1 : Bx (w.alloc (.cells #[.string ⟨#[]⟩, .string ⟨#[]⟩, .int .i64 0, .int .i64 0, .int .i64 0, .int .i64 0, .int .i64 0, .int .i64 0, .slice none 0 0, .slice none 0 0, .slice none 0 0, .int .i64 0, .int .i64 0] t)) w.heap.size [.string ⟨#[]⟩, .string ⟨#[]⟩, .int .i64 0, .int .i64 0, .int .i64 0, .int .i64 0, .int .i64 0, .int .i64 0, .slice none 0 0, .slice none 0 0, .slice none 0 0, .int .i64 0, .int .i64 0] := Bx.new _ _ _
  have b1 : Below w.heap.size w (w.alloc (.cells #[.string ⟨#[]⟩, .string ⟨#[]⟩, .int .i64 0, .int .i64 0, .int .i64 0, .int .i64 0, .int .i64 0, .int .i64 0, .slice none 0 0, .slice none 0 0, .slice none 0 0, .int .i64 0, .int .i64 0] t)) := bel_alloc _ _
  obtain ⟨w1, hw1⟩ : ∃ w1, w1 = w.alloc (.cells #[.string ⟨#[]⟩, .string ⟨#[]⟩, .int .i64 0, .int .i64 0, .int .i64 0, .int .i64 0, .int .i64 0, .int .i64 0, .slice none 0 0, .slice none 0 0, .slice none 0 0, .int .i64 0, .int .i64 0] t) := ⟨_, rfl⟩
  rw [← hw1] at s1 B1 b1 ⊢
  have F2 : Bx (w1.alloc (.cells #[.int .i64 0, .int .i64 0, .int .i64 0] u)) (w.heap.size + 1) [.int .i64 0, .int .i64 0, .int .i64 0] := by rw [← s1]; exact Bx.new _ _ _
  have B2 := B1.on (bel_alloc w1 (.cells #[.int .i64 0, .int .i64 0, .int .i64 0] u))
  have b2 := bel_on b1 (bel_alloc w1 (.cells #[.int .i64 0, .int .i64 0, .int .i64 0] u))
  obtain ⟨w2, hw2⟩ : ∃ w2, w2 = w1.alloc (.cells #[.int .i64 0, .int .i64 0, .int .i64 0] u) := ⟨_, rfl⟩
  rw [← hw2] at F2 B2 b2 ⊢
  have hne : w.heap.size ≠ w.heap.size + 1 := by omega
  have hne' : w.heap.size + 1 ≠ w.heap.size := by omega
  have B3 := bx_all (vs := planC p ma mc fa fc ca cc) B2 rfl
  have F3 := bx_setCells (k := w.heap.size) hne (planC p ma mc fa fc ca cc) 0 w2 F2
  have b3 := below_setCells (Nat.le_refl w.heap.size) (planC p ma mc fa fc ca cc) 0 w2 b2
  have b4 := ((b3.setCell (p := ⟨w.heap.size + 1, 0, none⟩) (by show w.heap.size ≤ w.heap.size + 1; omega) (.int .i64 x)).setCell (p := ⟨w.heap.size + 1, 1, none⟩) (by show w.heap.size ≤ w.heap.size + 1; omega) (.int .i64 y)).setCell (p := ⟨w.heap.size + 1, 2, none⟩) (by show w.heap.size ≤ w.heap.size + 1; omega) (.int .i64 z)
  exact ⟨⟨((B3.other (p := ⟨w.heap.size + 1, 0, none⟩) hne _).other (p := ⟨w.heap.size + 1, 1, none⟩) hne _).other (p := ⟨w.heap.size + 1, 2, none⟩) hne _, ((F3.set 0 _).set 1 _).set 2 _, h.on b4⟩, b4⟩
theorem parsed_a2 : ∃ p : Plan, parsed txA = (p, 0, 0, 0) ∧ p.fees = [⟨5, ⟨true, ⟨2024, 1, 1⟩, ⟨2024, 1, 31⟩⟩, 1, 53⟩] := ⟨(parsed txA).1, by rw [← parsed_a.1], parsed_a.2⟩
theorem parsed_b2 : ∃ p : Plan, parsed txB = (p, 4, 1, 57) := ⟨(parsed txB).1, by rw [← parsed_b]⟩
theorem bytes_a : (⟨#[112, 108, 97, 110, 32, 112, 32, 99, 117, 114, 114, 101, 110, 99, 121, 32, 69, 85, 82, 59, 32, 104, 111, 114, 105, 122, 111, 110, 32, 50, 48, 50, 52, 45, 48, 49, 45, 48, 49, 32, 50, 48, 50, 52, 45, 49, 50, 45, 51, 49, 59, 32, 102, 101, 101, 32, 53, 32, 102, 114, 111, 109, 32, 50, 48, 50, 52, 45, 48, 49, 45, 48, 49, 32, 116, 111, 32, 50, 48, 50, 52, 45, 48, 49, 45, 51, 49, 59]⟩ : ByteArray).data.toList = txA := rfl
theorem bytes_b : (⟨#[112, 108, 97, 110, 32, 112, 32, 99, 117, 114, 114, 101, 110, 99, 121, 32, 69, 85, 82, 59, 32, 104, 111, 114, 105, 122, 111, 110, 32, 50, 48, 50, 52, 45, 48, 49, 45, 48, 49, 32, 50, 48, 50, 52, 45, 49, 50, 45, 51, 49, 59, 32, 102, 101, 101, 32, 120, 59]⟩ : ByteArray).data.toList = txB := rfl
theorem call_a (w : World) (k : Ky w) : Calls Tryz.prog 14 #[.string ⟨#[112, 108, 97, 110, 32, 112, 32, 99, 117, 114, 114, 101, 110, 99, 121, 32, 69, 85, 82, 59, 32, 104, 111, 114, 105, 122, 111, 110, 32, 50, 48, 50, 52, 45, 48, 49, 45, 48, 49, 32, 50, 48, 50, 52, 45, 49, 50, 45, 51, 49, 59, 32, 102, 101, 101, 32, 53, 32, 102, 114, 111, 109, 32, 50, 48, 50, 52, 45, 48, 49, 45, 48, 49, 32, 116, 111, 32, 50, 48, 50, 52, 45, 48, 49, 45, 51, 49, 59]⟩] w fun e w' => ∃ p ma mc fa fc ca cc, p.fees = [⟨5, ⟨true, ⟨2024, 1, 1⟩, ⟨2024, 1, 31⟩⟩, 1, 53⟩] ∧ e = .returned (.tuple #[.agg (planC p ma mc fa fc ca cc).toArray, .agg #[.int .i64 0, .int .i64 0, .int .i64 0]]) ∧
    PlanLies w' (planC p ma mc fa fc ca cc) p ma mc fa fc ca cc ∧ Below w.heap.size w w' := by
  have h := parse_lies ⟨#[112, 108, 97, 110, 32, 112, 32, 99, 117, 114, 114, 101, 110, 99, 121, 32, 69, 85, 82, 59, 32, 104, 111, 114, 105, 122, 111, 110, 32, 50, 48, 50, 52, 45, 48, 49, 45, 48, 49, 32, 50, 48, 50, 52, 45, 49, 50, 45, 51, 49, 59, 32, 102, 101, 101, 32, 53, 32, 102, 114, 111, 109, 32, 50, 48, 50, 52, 45, 48, 49, 45, 48, 49, 32, 116, 111, 32, 50, 48, 50, 52, 45, 48, 49, 45, 51, 49, 59]⟩ w k
  obtain ⟨p, hp, hf⟩ := parsed_a2
  rw [bytes_a, hp] at h
  exact h.mono fun e w' ⟨ma, mc, fa, fc, ca, cc, h1, h2, h3⟩ => ⟨p, ma, mc, fa, fc, ca, cc, hf, h1, h2, h3⟩
theorem call_b (w : World) (k : Ky w) : Calls Tryz.prog 14 #[.string ⟨#[112, 108, 97, 110, 32, 112, 32, 99, 117, 114, 114, 101, 110, 99, 121, 32, 69, 85, 82, 59, 32, 104, 111, 114, 105, 122, 111, 110, 32, 50, 48, 50, 52, 45, 48, 49, 45, 48, 49, 32, 50, 48, 50, 52, 45, 49, 50, 45, 51, 49, 59, 32, 102, 101, 101, 32, 120, 59]⟩] w fun e w' => ∃ p ma mc fa fc ca cc, e = .returned (.tuple #[.agg (planC p ma mc fa fc ca cc).toArray, .agg #[.int .i64 4, .int .i64 1, .int .i64 57]]) ∧
    PlanLies w' (planC p ma mc fa fc ca cc) p ma mc fa fc ca cc ∧ Below w.heap.size w w' := by
  have h := parse_lies ⟨#[112, 108, 97, 110, 32, 112, 32, 99, 117, 114, 114, 101, 110, 99, 121, 32, 69, 85, 82, 59, 32, 104, 111, 114, 105, 122, 111, 110, 32, 50, 48, 50, 52, 45, 48, 49, 45, 48, 49, 32, 50, 48, 50, 52, 45, 49, 50, 45, 51, 49, 59, 32, 102, 101, 101, 32, 120, 59]⟩ w k
  obtain ⟨p, hp⟩ := parsed_b2
  rw [bytes_b, hp] at h
  exact h.mono fun e w' ⟨ma, mc, fa, fc, ca, cc, h1, h2, h3⟩ => ⟨p, ma, mc, fa, fc, ca, cc, h1, h2, h3⟩
end Go.Proofs.YteelbdcgdkpioaaGreatDoor.L07
