/- What the document's answers for layer 6 (poundageref06) come to: text, window. -/
import Derived.Test.YtinadkgfhoibkaaDoorJRef6b
import Derived.Test.YtinadkgfhoibkaaDoorJDate
import Derived.BigQuiet
import Derived.Laws.IdiomStrings
namespace Go.Proofs.YtinadkgfhoibkaaDoor.R6
open Go.RowKit Go.Sort P Mm

def byteOf (x : Int) : UInt8 := UInt8.ofNat x.toNat
theorem byteOf_is {x : Int} : ((byteOf (x % 256)).toNat : Int) = x % 256 := by
  unfold byteOf
  rw [UInt8.toNat_ofNat']
  omega
/-- A number's eight bytes, the least first. -/
def b8 (u : Int) : List UInt8 := [byteOf (u % 256), byteOf (u / 256 % 256), byteOf (u / 65536 % 256), byteOf (u / 16777216 % 256), byteOf (u / 4294967296 % 256), byteOf (u / 1099511627776 % 256), byteOf (u / 281474976710656 % 256), byteOf (u / 72057594037927936 % 256)]
def c8 (u : Int) : Array Value := #[.int .u8 (u % 256), .int .u8 (u / 256 % 256), .int .u8 (u / 65536 % 256), .int .u8 (u / 16777216 % 256), .int .u8 (u / 4294967296 % 256), .int .u8 (u / 1099511627776 % 256), .int .u8 (u / 281474976710656 % 256), .int .u8 (u / 72057594037927936 % 256)]
def t8 (n : Int) : ByteArray := ⟨(b8 (IntKind.u64.wrap n)).toArray⟩
theorem conv8 (u : Int) (w : World) : (convert 96 9 (.slice (some ⟨w.heap.size, 0, none⟩) 8 8)).run Tryd.prog (w.alloc (.cells (c8 u) 5)) = .ok (.string ⟨(b8 u).toArray⟩) (w.alloc (.cells (c8 u) 5)) :=
  run_convert_bytes_back (P := Tryd.prog) (w.alloc (.cells (c8 u) 5)) 96 9 5 ⟨w.heap.size, 0, none⟩ 8 (b8 u) Tryd.underlying96 Tryd.underlying5 Tryd.underlying9 (fun j hj => by
    have hj8 : j < 8 := hj
    rw [Mm.add_plain, World.cell?_alloc_new]
    obtain rfl | rfl | rfl | rfl | rfl | rfl | rfl | rfl : j = 0 ∨ j = 1 ∨ j = 2 ∨ j = 3 ∨ j = 4 ∨ j = 5 ∨ j = 6 ∨ j = 7 := by omega
    all_goals exact congrArg (fun x => some (Value.int .u8 x)) byteOf_is.symm)
set_option maxRecDepth 100000 in
theorem text_any (n : Int) (w : World) :
    Calls Tryd.prog 26 #[.int .i64 n] w fun e w' => e = .returned (.string (t8 n)) ∧ Below w.heap.size w w' := by
  obtain ⟨u, hu⟩ : ∃ u, IntKind.u64.wrap n = u := ⟨_, rfl⟩
  have hc := conv8 u w
  unfold t8
  rw [hu]
  unfold c8 at hc
  obtain ⟨B, hB⟩ : ∃ B : ByteArray, B = ⟨(b8 u).toArray⟩ := ⟨_, rfl⟩
  rw [← hB] at hc ⊢
  clear hB
  go_enter Tryd.func26, Tryd.ntmps26
  go_wp2
  go_ret
  exact ⟨rfl, bel_alloc _ _⟩
/-! Two numbers have the same text just if they are the same. -/
theorem wrap_u (n : Int) : IntKind.u64.wrap n = n % 18446744073709551616 := rfl
theorem b8_inj {u v : Int} (hu : 0 ≤ u) (hu1 : u < 18446744073709551616) (hv : 0 ≤ v) (hv1 : v < 18446744073709551616) (h : b8 u = b8 v) : u = v := by
  unfold b8 at h
  simp only [List.cons.injEq, and_true] at h
  obtain ⟨h0, h1, h2, h3, h4, h5, h6, h7⟩ := h
  have k : ∀ {x y : Int}, byteOf (x % 256) = byteOf (y % 256) → x % 256 = y % 256 := fun {x y} e => by
    rw [← @byteOf_is x, ← @byteOf_is y, e]
  have := k h0; have := k h1; have := k h2; have := k h3; have := k h4; have := k h5; have := k h6; have := k h7
  omega
theorem t8_inj {n m : Int} (hn : I64 n) (hm : I64 m) (h : t8 n = t8 m) : n = m := by
  unfold t8 at h
  have e : b8 (IntKind.u64.wrap n) = b8 (IntKind.u64.wrap m) := by
    have := congrArg (fun b : ByteArray => b.data.toList) h
    simpa using this
  rw [wrap_u, wrap_u] at e
  have := b8_inj (by omega) (by omega) (by omega) (by omega) e
  unfold I64 at hn hm
  omega
end Go.Proofs.YtinadkgfhoibkaaDoor.R6
/- What the document's answers for layer 6 (poundageref06) come to: window. -/
namespace Go.Proofs.YtinadkgfhoibkaaDoor.R6
open Go.RowKit Go.Sort P Mm Tl

def strs (l : List ByteArray) : List Value := l.flatMap fun s => [.string s]
theorem strs_app (a b : List ByteArray) : strs (a ++ b) = strs a ++ strs b := by unfold strs; rw [List.flatMap_append]
def yes : ByteArray := ⟨#[121, 101, 115]⟩
def no : ByteArray := ⟨#[110, 111]⟩
def rW (w : Win) : List ByteArray := [if w.has then yes else no, t8 w.a.y, t8 w.a.m, t8 w.a.d, t8 w.b.y, t8 w.b.m, t8 w.b.d]
def winC (w : Win) : Array Value := #[.bool w.has, .int .i64 w.a.y, .int .i64 w.a.m, .int .i64 w.a.d, .int .i64 w.b.y, .int .i64 w.b.m, .int .i64 w.b.d]
theorem box7 {w w1 : World} {a0 a1 a2 a3 a4 a5 a6 : Value} {t : TypeId} (h : w1 = w.alloc (.cells #[a0, a1, a2, a3, a4, a5, a6] t)) :
    w1.cell? ⟨w.heap.size, 0, none⟩ = some a0 ∧ w1.cell? ⟨w.heap.size, 1, none⟩ = some a1 ∧ w1.cell? ⟨w.heap.size, 2, none⟩ = some a2 ∧ w1.cell? ⟨w.heap.size, 3, none⟩ = some a3 ∧ w1.cell? ⟨w.heap.size, 4, none⟩ = some a4 ∧ w1.cell? ⟨w.heap.size, 5, none⟩ = some a5 ∧ w1.cell? ⟨w.heap.size, 6, none⟩ = some a6 := by
  subst h
  refine ⟨?_, ?_, ?_, ?_, ?_, ?_, ?_⟩ <;> (rw [World.cell?_alloc_new]; rfl)
set_option maxHeartbeats 1000000 in
theorem window_any (x : Win) (w : World) : Calls Tryd.prog 25 #[.agg (winC x)] w fun e w' => ∃ v, e = .returned v ∧ w'.ownsRow w.heap.size 9 1 v 7 (strs (rW x)) ∧ Below w.heap.size w w' := by
  obtain ⟨w1, hw1⟩ : ∃ w1, w1 = w.alloc (.cells (winC x) 45) := ⟨_, rfl⟩
  have b1 : Below w.heap.size w w1 := by rw [hw1]; exact bel_alloc _ _
  unfold winC at hw1 ⊢
  have c := box7 hw1
  obtain ⟨_, c1, c2, c3, c4, c5, c6⟩ := c
  have k1 := cell_regrown c1
  have k2 := cell_regrown c2
  have k3 := cell_regrown c3
  have k4 := cell_regrown c4
  have k5 := cell_regrown c5
  have k6 := cell_regrown c6
  have q := fun n d os => Calls.regrown_of (text_any n (grow (redrawn w1 d) os))
  have HW := hid hw1
  clear hw1 c1 c2 c3 c4 c5 c6
  unfold rW
  obtain ⟨S, hS⟩ : ∃ S : ByteArray, S = if x.has then yes else no := ⟨_, rfl⟩
  rw [← hS]
  rcases Bool.eq_false_or_eq_true x.has with hh | hh
  all_goals
    rw [hh] at hS
    simp only [if_true, Bool.false_eq_true, if_false] at hS
    first | unfold yes at hS | unfold no at hS
    have HW2 := HW.out
    rw [hh] at HW2 ⊢
    replace HW2 := hid HW2
    have hbe : Hid (strs [S, t8 x.a.y, t8 x.a.m, t8 x.a.d, t8 x.b.y, t8 x.b.m, t8 x.b.d] = [.string S, .string (t8 x.a.y), .string (t8 x.a.m), .string (t8 x.a.d), .string (t8 x.b.y), .string (t8 x.b.m), .string (t8 x.b.d)]) := hid rfl
    go_enter Tryd.func25, Tryd.ntmps25
    go_wp2
    rw [← HW2.out]
    refine region_tail_below 25 (by kernel_rfl) (by kernel_rfl) ?_
    simp only [List.take_succ_cons, List.take_zero, List.drop_succ_cons, List.drop_zero]
    repeat (go_big_quiet_step (first | (go_at_call 26; exact q _ _ _)))
    refine wpQuiet_nil ?_
    intro _ hw'
    obtain ⟨⟨dq, osq⟩, hw''⟩ := hw'
    subst hw''
    obtain ⟨w2, hw2⟩ : ∃ w2, w2 = grow (redrawn w1 dq) osq := ⟨_, rfl⟩
    have b2 : Below w1.heap.size w1 w2 := by rw [hw2]; exact below_regrown w1 dq osq
    rw [← hw2]
    clear hw2 q k1 k2 k3 k4 k5 k6
    go_wp2
    have B2 := bel_on b1 b2
    refine bodyPost_ret (v := .slice (some ⟨w2.heap.size, 0, none⟩) 7 7) (by simp [results, Tryd.results25, go_sem]) rfl ⟨_, rfl, ?_, bel_on B2 (bel_alloc _ _)⟩
    rw [hbe.out, hS]
    exact World.ownsRow_lit w2 #[.string _, .string (t8 x.a.y), .string (t8 x.a.m), .string (t8 x.a.d), .string (t8 x.b.y), .string (t8 x.b.m), .string (t8 x.b.d)] 7 B2.size (by decide) rfl
end Go.Proofs.YtinadkgfhoibkaaDoor.R6
