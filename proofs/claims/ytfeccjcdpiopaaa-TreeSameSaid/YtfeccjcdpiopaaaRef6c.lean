/- What the document's answers for layer 6 (poundageref06) come to: text, window. -/
import Derived.Test.YtfeccjcdpiopaaaRef6b
import Derived.Test.YtfeccjcdpiopaaaTail
import Derived.BigQuiet
import Derived.Laws.IdiomStrings
namespace Go.Proofs.Ytfeccjcdpiopaaa.R6
open Go.RowKit Go.Sort P Mm

def byteOf (x : Int) : UInt8 := UInt8.ofNat x.toNat
theorem byteOf_is {x : Int} : ((byteOf (x % 256)).toNat : Int) = x % 256 := by
  unfold byteOf
  rw [UInt8.toNat_ofNat']
  omega
/-- A number's eight bytes, the least first. -/
def b8 (u : Int) : List UInt8 := [byteOf (u % 256), byteOf (u / 256 % 256), byteOf (u / 65536 % 256), byteOf (u / 16777216 % 256), byteOf (u / 4294967296 % 256), byteOf (u / 1099511627776 % 256), byteOf (u / 281474976710656 % 256), byteOf (u / 72057594037927936 % 256)]
def c8 (u : Int) : Array Value := #[.int .u8 (u % 256), .int .u8 (u / 256 % 256), .int .u8 (u / 65536 % 256), .int .u8 (u / 16777216 % 256), .int .u8 (u / 4294967296 % 256), .int .u8 (u / 1099511627776 % 256), .int .u8 (u / 281474976710656 % 256), .int .u8 (u / 72057594037927936 % 256)]
def t8 (n : Int) : ByteArray := ⟨(b8 (IntKind.u64.wrap n)).toArray⟩
theorem conv8 (u : Int) (w : World) : (convert 89 9 (.slice (some ⟨w.heap.size, 0, none⟩) 8 8)).run Try.prog (w.alloc (.cells (c8 u) 5)) = .ok (.string ⟨(b8 u).toArray⟩) (w.alloc (.cells (c8 u) 5)) :=
  run_convert_bytes_back (P := Try.prog) (w.alloc (.cells (c8 u) 5)) 89 9 5 ⟨w.heap.size, 0, none⟩ 8 (b8 u) Try.underlying89 Try.underlying5 Try.underlying9 (fun j hj => by
    have hj8 : j < 8 := hj
    rw [Mm.add_plain, World.cell?_alloc_new]
    obtain rfl | rfl | rfl | rfl | rfl | rfl | rfl | rfl : j = 0 ∨ j = 1 ∨ j = 2 ∨ j = 3 ∨ j = 4 ∨ j = 5 ∨ j = 6 ∨ j = 7 := by omega
    all_goals exact congrArg (fun x => some (Value.int .u8 x)) byteOf_is.symm)
set_option maxRecDepth 100000 in
theorem text_any (n : Int) (w : World) :
    Calls Try.prog 51 #[.int .i64 n] w fun e w' => e = .returned (.string (t8 n)) ∧ Below w.heap.size w w' := by
  obtain ⟨u, hu⟩ : ∃ u, IntKind.u64.wrap n = u := ⟨_, rfl⟩
  have hc := conv8 u w
  unfold t8
  rw [hu]
  unfold c8 at hc
  obtain ⟨B, hB⟩ : ∃ B : ByteArray, B = ⟨(b8 u).toArray⟩ := ⟨_, rfl⟩
  rw [← hB] at hc ⊢
  clear hB
  go_enter Try.func51, Try.ntmps51
  go_wp2
  go_ret
  exact ⟨rfl, bel_alloc _ _⟩
/-! Two numbers have the same text just if they are the same. -/
theorem wrap_u (n : Int) : IntKind.u64.wrap n = n % 18446744073709551616 := rfl
theorem b8_inj {u v : Int} (hu : 0 ≤ u) (hu1 : u < 18446744073709551616) (hv : 0 ≤ v) (hv1 : v < 18446744073709551616) (h : b8 u = b8 v) : u = v := by
  unfold b8 at h
  simp only [List.cons.injEq, and_true] at h
  obtain ⟨h0, h1, h2, h3, h4, h5, h6, h7⟩ := h
  have k : ∀ {x y : Int}, byteOf (x % 256) = byteOf (y % 256) → x % 256 = y % 256 := fun {x y} e => by
    rw [← @byteOf_is x, ← @byteOf_is y, e]
  have := k h0; have := k h1; have := k h2; have := k h3; have := k h4; have := k h5; have := k h6; have := k h7
  omega
theorem t8_inj {n m : Int} (hn : I64 n) (hm : I64 m) (h : t8 n = t8 m) : n = m := by
  unfold t8 at h
  have e : b8 (IntKind.u64.wrap n) = b8 (IntKind.u64.wrap m) := by
    have := congrArg (fun b : ByteArray => b.data.toList) h
    simpa using this
  rw [wrap_u, wrap_u] at e
  have := b8_inj (by omega) (by omega) (by omega) (by omega) e
  unfold I64 at hn hm
  omega
end Go.Proofs.Ytfeccjcdpiopaaa.R6
