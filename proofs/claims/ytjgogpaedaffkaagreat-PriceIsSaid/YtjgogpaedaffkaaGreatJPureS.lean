/- Plain arithmetic on whole numbers of 64 bits: no program is named here. -/
import Derived.RowKit
import Derived.IntWalk
import Derived.Below
import Derived.WalkSmall
import Derived.WalkKit
import Derived.Deep.Slices
import Derived.ChangeArms
import Derived.ChangeOld
import Derived.Laws.AppendOwn
import Derived.Laws.OwnMore
import Derived.Test.YtjgogpaedaffkaaGreatRows
import Derived.Laws.Bits64b
namespace Go.Proofs.YtjgogpaedaffkaaGreat.P
end Go.Proofs.YtjgogpaedaffkaaGreat.P
namespace Go.Proofs.YtjgogpaedaffkaaGreat.P
open Go.RowKit
theorem hid {p : Prop} (h : p) : Hid p := h
/-- A number that 64 bits hold. -/
def I64 (n : Int) : Prop := -9223372036854775808 ≤ n ∧ n ≤ 9223372036854775807
def ok64 (n : Int) : Bool := decide (-9223372036854775808 ≤ n) && decide (n ≤ 9223372036854775807)
theorem ok64_iff (n : Int) : ok64 n = true ↔ I64 n := by unfold ok64 I64; simp
theorem ok64_t {n : Int} (h : I64 n) : ok64 n = true := (ok64_iff n).2 h
theorem ok64_f {n : Int} (h : ¬ I64 n) : ok64 n = false := by
  rw [Bool.eq_false_iff]; intro e; exact h ((ok64_iff n).1 e)
/-- The number, or nought where 64 bits do not hold it. -/
def cut64 (n : Int) : Int := if ok64 n = true then n else 0
theorem cut64_t {n : Int} (h : I64 n) : cut64 n = n := by unfold cut64; rw [if_pos (ok64_t h)]
theorem cut64_f {n : Int} (h : ¬ I64 n) : cut64 n = 0 := by unfold cut64; rw [if_neg (by rw [ok64_iff]; exact h)]
theorem i64_0 : I64 0 := by unfold I64; omega
theorem i64_cut (n : Int) : I64 (cut64 n) := by
  by_cases h : I64 n
  · rw [cut64_t h]; exact h
  · rw [cut64_f h]; exact i64_0
theorem wrap_in {n : Int} (h : I64 n) : wrap64 n = n := by unfold I64 at h; unfold wrap64; omega
theorem i64_wrap (n : Int) : I64 (wrap64 n) := by unfold I64 wrap64; omega
theorem add_test_yes {a b : Int} (h : I64 (a + b)) : (!(decide (a < wrap64 (a + b)) == decide (0 < b))) = false := by
  rw [wrap_in h]
  have : decide (a < a + b) = decide (0 < b) := by rw [decide_eq_decide]; omega
  rw [this]; simp
theorem add_test_no {a b : Int} (ha : I64 a) (hb : I64 b) (h : ¬ I64 (a + b)) : (!(decide (a < wrap64 (a + b)) == decide (0 < b))) = true := by
  by_cases hb0 : 0 < b
  · have : ¬ a < wrap64 (a + b) := by unfold I64 at *; unfold wrap64; omega
    simp [hb0, this]
  · have : a < wrap64 (a + b) := by unfold I64 at *; unfold wrap64; omega
    simp [hb0, this]
theorem sub_test_yes {a b : Int} (h : I64 (a - b)) : (!(decide (wrap64 (a - b) < a) == decide (0 < b))) = false := by
  rw [wrap_in h]
  have : decide (a - b < a) = decide (0 < b) := by rw [decide_eq_decide]; omega
  rw [this]; simp
theorem sub_test_no {a b : Int} (ha : I64 a) (hb : I64 b) (h : ¬ I64 (a - b)) : (!(decide (wrap64 (a - b) < a) == decide (0 < b))) = true := by
  by_cases hb0 : 0 < b
  · have : ¬ wrap64 (a - b) < a := by unfold I64 at *; unfold wrap64; omega
    simp [hb0, this]
  · have : wrap64 (a - b) < a := by unfold I64 at *; unfold wrap64; omega
    simp [hb0, this]
theorem tdiv_mul_of {a b : Int} (h : a ≠ 0) : (a * b).tdiv a = b := Int.mul_tdiv_cancel_left b h
theorem tdiv_near (n : Int) {a : Int} (h : a ≠ 0) : (n.tdiv a * a - n).natAbs < a.natAbs := by
  have h1 := Int.tmod_add_mul_tdiv n a
  have h2 : (n.tmod a).natAbs < a.natAbs := by
    rw [Int.natAbs_tmod]; exact Nat.mod_lt _ (by omega)
  have h3 : n.tdiv a * a = a * n.tdiv a := Int.mul_comm _ _
  omega
theorem mul_test_no {a b : Int} (ha : I64 a) (h0 : a ≠ 0) (h : ¬ I64 (a * b)) : wrap64 ((wrap64 (a * b)).tdiv a) ≠ b ∨ a = -1 := by
  by_cases h1 : a = -1
  · exact Or.inr h1
  · refine Or.inl ?_
    intro he
    generalize hp : a * b = p at *
    have hw : ∃ k, p = wrap64 p + 18446744073709551616 * k ∧ k ≠ 0 := by
      refine ⟨(p + 9223372036854775808) / 18446744073709551616, ?_, ?_⟩
      · unfold wrap64; omega
      · intro hk; apply h; unfold I64; omega
    obtain ⟨k, hk, hk0⟩ := hw
    have hr := i64_wrap p
    generalize hq : wrap64 p = r at *
    have hnear := tdiv_near r h0
    have hsize : (r.tdiv a).natAbs ≤ 9223372036854775808 := by
      rw [Int.natAbs_tdiv]
      exact Nat.le_trans (Nat.div_le_self _ _) (by unfold I64 at hr; omega)
    -- the quotient itself does not go round, but where it is 2^63: then a is -1
    have hqq : I64 (r.tdiv a) := by
      by_cases hbig : (r.tdiv a).natAbs = 9223372036854775808
      · have hm : (r.tdiv a).natAbs * a.natAbs ≤ 9223372036854775808 := by
          rw [Int.natAbs_tdiv]; exact Nat.le_trans (Nat.div_mul_le_self _ _) (by unfold I64 at hr; omega)
        rw [hbig] at hm
        have ha1 : a.natAbs ≤ 1 := by omega
        have : a = 1 := by omega
        subst this
        rw [Int.tdiv_one]; exact hr
      · unfold I64; omega
    rw [wrap_in hqq] at he
    rw [he] at hnear
    have : b * a = p := by rw [← hp, Int.mul_comm]
    unfold I64 at ha
    omega
theorem mul_test_yes {a b : Int} (hb : I64 b) (h0 : a ≠ 0) (h : I64 (a * b)) : wrap64 ((wrap64 (a * b)).tdiv a) = b := by
  rw [wrap_in h, tdiv_mul_of h0, wrap_in hb]
def hiN (n : Nat) : Nat := n / 18446744073709551616
def loN (n : Nat) : Nat := n % 18446744073709551616
def two127 : Nat := 170141183460469231731687303715884105728
def two128 : Nat := 340282366920938463463374607431768211456
theorem hiN_small {n : Nat} (h : n ≤ 9223372036854775808) : hiN n = 0 := by unfold hiN; omega
theorem loN_small {n : Nat} (h : n ≤ 9223372036854775808) : loN n = n := by unfold loN; omega
theorem loN_lt (n : Nat) : loN n < 18446744073709551616 := by unfold loN; omega
theorem hi_lo (n : Nat) : hiN n * 18446744073709551616 + loN n = n := by unfold hiN loN; omega
theorem zero_iff (n : Nat) : (((hiN n : Nat) : Int) == 0 && ((loN n : Nat) : Int) == 0) = (n == 0) := by
  have h := hi_lo n
  have h1 : n = 0 → hiN n = 0 ∧ loN n = 0 := by intro e; subst e; exact ⟨rfl, rfl⟩
  rw [Bool.eq_iff_iff]
  simp only [Bool.and_eq_true, beq_iff_eq]
  constructor
  · intro e; omega
  · intro e; have := h1 e; omega
theorem wrapU_eq (n : Int) : IntKind.u64.wrap n = n % 18446744073709551616 := by simp [IntKind.wrap, IntKind.bits, IntKind.signed]
theorem u64_mod (n : Int) : IntKind.u64.wrap n = n % 18446744073709551616 := wrapU_eq n
theorem plus_lo (m n : Nat) : IntKind.u64.wrap ((loN m : Int) + (loN n : Int)) = (loN (m + n) : Int) := by
  rw [u64_mod]; unfold loN; omega
theorem plus_test_yes {m n : Nat} (h : 18446744073709551616 ≤ loN m + loN n) : decide (IntKind.u64.wrap ((loN m : Int) + (loN n : Int)) < (loN m : Int)) = true := by
  rw [u64_mod]; have := loN_lt m; have := loN_lt n; simp; omega
theorem plus_test_no {m n : Nat} (h : ¬ 18446744073709551616 ≤ loN m + loN n) : decide (IntKind.u64.wrap ((loN m : Int) + (loN n : Int)) < (loN m : Int)) = false := by
  rw [u64_mod]; have := loN_lt m; have := loN_lt n; simp; omega
theorem plus_hi_yes {m n : Nat} (hs : m + n < two128) (h : 18446744073709551616 ≤ loN m + loN n) : IntKind.u64.wrap (IntKind.u64.wrap ((hiN m : Int) + (hiN n : Int)) + 1) = (hiN (m + n) : Int) := by
  rw [u64_mod, u64_mod]; unfold hiN loN two128 at *; omega
theorem plus_hi_no {m n : Nat} (hs : m + n < two128) (h : ¬ 18446744073709551616 ≤ loN m + loN n) : IntKind.u64.wrap ((hiN m : Int) + (hiN n : Int)) = (hiN (m + n) : Int) := by
  rw [u64_mod]; unfold hiN loN two128 at *; omega
theorem minus_lo {m n : Nat} (h : n ≤ m) : IntKind.u64.wrap ((loN m : Int) - (loN n : Int)) = (loN (m - n) : Int) := by
  rw [u64_mod]; unfold loN; omega
theorem minus_hi_yes {m n : Nat} (hs : m < two128) (h : n ≤ m) (ht : loN m < loN n) : IntKind.u64.wrap (IntKind.u64.wrap ((hiN m : Int) - (hiN n : Int)) - 1) = (hiN (m - n) : Int) := by
  rw [u64_mod, u64_mod]; unfold hiN loN two128 at *; omega
theorem minus_hi_no {m n : Nat} (hs : m < two128) (h : n ≤ m) (ht : ¬ loN m < loN n) : IntKind.u64.wrap ((hiN m : Int) - (hiN n : Int)) = (hiN (m - n) : Int) := by
  rw [u64_mod]; unfold hiN loN two128 at *; omega
theorem min_test_yes {m n : Nat} (h : loN m < loN n) : decide (loN m < loN n) = true := by simp; omega
theorem min_test_no {m n : Nat} (h : ¬ loN m < loN n) : decide (loN m < loN n) = false := by simp; omega
theorem size_iff (m n : Nat) : (decide (hiN m < hiN n) || ((hiN m : Int) == (hiN n : Int) && decide (loN m < loN n))) = decide (m < n) := by
  have h1 := hi_lo m
  have h2 := hi_lo n
  have h3 := loN_lt m
  have h4 := loN_lt n
  rw [Bool.eq_iff_iff]
  simp only [Bool.or_eq_true, Bool.and_eq_true, beq_iff_eq, decide_eq_true_eq]
  omega
def M0 (x y : Nat) : Nat := x / 4294967296 * (y / 4294967296) * 18446744073709551616 + x % 4294967296 * (y % 4294967296)
def M1 (x y : Nat) : Nat := x % 4294967296 * (y / 4294967296) * 4294967296
def M2 (x y : Nat) : Nat := x / 4294967296 * (y % 4294967296) * 4294967296
theorem mul_parts (x y : Nat) : M0 x y + M1 x y + M2 x y = x * y := by
  have key : ∀ x1 x0 y1 y0 : Nat, x1 * y1 * 18446744073709551616 + x0 * y0 + x0 * y1 * 4294967296 + x1 * y0 * 4294967296 = (x1 * 4294967296 + x0) * (y1 * 4294967296 + y0) := by
    intro x1 x0 y1 y0; grind
  unfold M0 M1 M2
  rw [key, show x / 4294967296 * 4294967296 + x % 4294967296 = x by omega, show y / 4294967296 * 4294967296 + y % 4294967296 = y by omega]
theorem part_le {a b A B : Nat} (ha : a ≤ A) (hb : b ≤ B) : a * b ≤ A * B := Nat.mul_le_mul ha hb
theorem m0_hi {x y : Nat} (hx : x ≤ 9223372036854775808) (hy : y ≤ 9223372036854775808) : IntKind.u64.wrap ((x : Int) / 4294967296 * ((y : Int) / 4294967296)) = (hiN (M0 x y) : Int) := by
  have h1 : x / 4294967296 * (y / 4294967296) ≤ 2147483648 * 2147483648 := part_le (by omega) (by omega)
  have h2 : x % 4294967296 * (y % 4294967296) ≤ 4294967295 * 4294967295 := part_le (by omega) (by omega)
  have e : (x : Int) / 4294967296 * ((y : Int) / 4294967296) = ((x / 4294967296 * (y / 4294967296) : Nat) : Int) := by simp
  rw [e, u64_mod]
  unfold M0 hiN
  generalize x / 4294967296 * (y / 4294967296) = p at *
  generalize x % 4294967296 * (y % 4294967296) = q at *
  omega
theorem m0_lo {x y : Nat} : IntKind.u64.wrap ((x : Int) % 4294967296 * ((y : Int) % 4294967296)) = (loN (M0 x y) : Int) := by
  have h2 : x % 4294967296 * (y % 4294967296) ≤ 4294967295 * 4294967295 := part_le (by omega) (by omega)
  have e : (x : Int) % 4294967296 * ((y : Int) % 4294967296) = ((x % 4294967296 * (y % 4294967296) : Nat) : Int) := by simp
  rw [e, u64_mod]
  unfold M0 loN
  generalize x / 4294967296 * (y / 4294967296) = p at *
  generalize x % 4294967296 * (y % 4294967296) = q at *
  omega
theorem m1_hi {x y : Nat} (hy : y ≤ 9223372036854775808) : IntKind.u64.wrap ((x : Int) % 4294967296 * ((y : Int) / 4294967296)) / 4294967296 = (hiN (M1 x y) : Int) := by
  have h2 : x % 4294967296 * (y / 4294967296) ≤ 4294967295 * 2147483648 := part_le (by omega) (by omega)
  have e : (x : Int) % 4294967296 * ((y : Int) / 4294967296) = ((x % 4294967296 * (y / 4294967296) : Nat) : Int) := by simp
  rw [e, u64_mod]
  unfold M1 hiN
  generalize x % 4294967296 * (y / 4294967296) = q at *
  omega
theorem m1_lo {x y : Nat} : IntKind.u64.wrap (IntKind.u64.wrap ((x : Int) % 4294967296 * ((y : Int) / 4294967296)) * 4294967296) = (loN (M1 x y) : Int) := by
  have e : (x : Int) % 4294967296 * ((y : Int) / 4294967296) = ((x % 4294967296 * (y / 4294967296) : Nat) : Int) := by simp
  rw [e, u64_mod, u64_mod]
  unfold M1 loN
  generalize x % 4294967296 * (y / 4294967296) = q at *
  omega
theorem m2_hi {x y : Nat} (hx : x ≤ 9223372036854775808) : IntKind.u64.wrap ((x : Int) / 4294967296 * ((y : Int) % 4294967296)) / 4294967296 = (hiN (M2 x y) : Int) := by
  have h2 : x / 4294967296 * (y % 4294967296) ≤ 2147483648 * 4294967295 := part_le (by omega) (by omega)
  have e : (x : Int) / 4294967296 * ((y : Int) % 4294967296) = ((x / 4294967296 * (y % 4294967296) : Nat) : Int) := by simp
  rw [e, u64_mod]
  unfold M2 hiN
  generalize x / 4294967296 * (y % 4294967296) = q at *
  omega
theorem m2_lo {x y : Nat} : IntKind.u64.wrap (IntKind.u64.wrap ((x : Int) / 4294967296 * ((y : Int) % 4294967296)) * 4294967296) = (loN (M2 x y) : Int) := by
  have e : (x : Int) / 4294967296 * ((y : Int) % 4294967296) = ((x / 4294967296 * (y % 4294967296) : Nat) : Int) := by simp
  rw [e, u64_mod, u64_mod]
  unfold M2 loN
  generalize x / 4294967296 * (y % 4294967296) = q at *
  omega
theorem prod_lt {x y : Nat} (hx : x ≤ 9223372036854775808) (hy : y ≤ 9223372036854775808) : x * y < two128 := by
  have := part_le hx hy; unfold two128; omega
theorem prod_lt' {a b : Int} (ha : I64 a) (hb : I64 b) : (a * b).natAbs < two127 := by
  rw [Int.natAbs_mul]
  have : a.natAbs * b.natAbs ≤ 9223372036854775808 * 9223372036854775808 := part_le (by unfold I64 at ha; omega) (by unfold I64 at hb; omega)
  unfold two127; omega
end Go.Proofs.YtjgogpaedaffkaaGreat.P
/- Values of structs and slices in memory, and the plain data that they hold: no function of the program is named here. -/
namespace Go.Proofs.YtjgogpaedaffkaaGreat.Mm
open Go.RowKit Go.Deep Go.ChangeShapes Go.WideShapes P
/-- A type: how many cells a value of it has, and what data they hold in a world. -/
structure Ty (α : Type) where
  n : Nat
  lies : World → List Value → α → Prop
  len : ∀ {w cs x}, lies w cs x → cs.length = n
  keep : ∀ {w w' cs x}, lies w cs x → Below w.heap.size w w' → lies w' cs x
/-- Rows that lie from a place on. -/
def LieRow {α : Type} (T : Ty α) (w : World) (b o : Nat) (xs : List α) : Prop := b < w.heap.size ∧
  ∀ j x, xs[j]? = some x → ∃ cs, T.lies w cs x ∧ ∀ i v, cs[i]? = some v → w.cell? ⟨b, o + j * T.n + i, none⟩ = some v
/-- What a slice holds. -/
structure Row {α : Type} (T : Ty α) (w : World) (ao : Option Addr) (len cap : Nat) (xs : List α) : Prop where
  hlen : xs.length = len
  hcap : len ≤ cap
  hmax : cap ≤ 9223372036854775807
  lie : xs ≠ [] → ∃ b o, ao = some ⟨b, o, none⟩ ∧ LieRow T w b o xs
theorem LieRow.on {α : Type} {T : Ty α} {w w' : World} {b o : Nat} {xs : List α} (h : LieRow T w b o xs) (hb : Below w.heap.size w w') : LieRow T w' b o xs := by
  refine ⟨Nat.lt_of_lt_of_le h.1 hb.size, fun j x hj => ?_⟩
  obtain ⟨cs, h1, h2⟩ := h.2 j x hj
  refine ⟨cs, T.keep h1 hb, fun i v hi => ?_⟩
  rw [hb.cell h.1]
  exact h2 i v hi
theorem Row.on {α : Type} {T : Ty α} {w w' : World} {ao : Option Addr} {len cap : Nat} {xs : List α} (h : Row T w ao len cap xs) (hb : Below w.heap.size w w') : Row T w' ao len cap xs :=
  ⟨h.hlen, h.hcap, h.hmax, fun n => by
    obtain ⟨b, o, h1, h2⟩ := h.lie n
    exact ⟨b, o, h1, h2.on hb⟩⟩
theorem bel_on {w w1 w2 : World} (a : Below w.heap.size w w1) (b : Below w1.heap.size w1 w2) : Below w.heap.size w w2 := a.trans (b.mono a.size)
theorem bel_alloc (w : World) (x : Obj) : Below w.heap.size w (w.alloc x) := (Below.refl _ _).alloc (Nat.le_refl _) _
theorem Row.alloc {α : Type} {T : Ty α} {w : World} {ao : Option Addr} {len cap : Nat} {xs : List α} (h : Row T w ao len cap xs) (x : Obj) : Row T (w.alloc x) ao len cap xs := h.on (bel_alloc w x)
/-- One element's address and cells. -/
theorem Row.at {α : Type} {T : Ty α} {w : World} {ao : Option Addr} {len cap : Nat} {xs : List α} (h : Row T w ao len cap xs) {j : Nat} {x : α} (hj : xs[j]? = some x) :
    ∃ b o cs, ao = some ⟨b, o, none⟩ ∧ b < w.heap.size ∧ T.lies w cs x ∧ ∀ i v, cs[i]? = some v → w.cell? ⟨b, o + j * T.n + i, none⟩ = some v := by
  obtain ⟨b, o, h1, h2⟩ := h.lie (fun e => by rw [e] at hj; cases hj)
  obtain ⟨cs, h3, h4⟩ := h2.2 j x hj
  exact ⟨b, o, cs, h1, h2.1, h3, h4⟩
/-- A type whose cells are told by the data alone. -/
def leaf {α : Type} (n : Nat) (cells : α → List Value) (ok : α → Prop) (hn : ∀ x, (cells x).length = n) : Ty α where
  n := n
  lies := fun _ cs x => cs = cells x ∧ ok x
  len := fun h => by rw [h.1]; exact hn _
  keep := fun h _ => h
/-- A number, a truth, a text. -/
def tInt : Ty Int := leaf 1 (fun x => [.int .i64 x]) I64 (fun _ => rfl)
/-- What is owned stays owned behind calls that leave old blocks alone. -/
theorem owns_on {w w1 : World} {base : Nat} {e : TypeId} {size n : Nat} {v : Value} {xs : List Value} (h : w.ownsRow base e size v n xs) (b : Below w.heap.size w w1) : w1.ownsRow base e size v n xs := by
  refine ⟨h.1, ?_⟩
  rcases h.2 with h2 | ⟨g, cap, cur, h1, h2, h3, h4⟩
  · exact .inl h2
  · have hg : g < w.heap.size := by
      rcases Nat.lt_or_ge g w.heap.size with k | k
      · exact k
      · rw [Array.getElem?_eq_none k] at h3; cases h3
    exact .inr ⟨g, cap, cur, h1, h2, by rw [b.block g hg]; exact h3, h4⟩
theorem flat_get {α β : Type} {cells : α → List β} {n : Nat} (hn : ∀ x, (cells x).length = n) : ∀ (xs : List α) (j : Nat) (x : α) (i : Nat) (u : β), xs[j]? = some x → (cells x)[i]? = some u → (xs.flatMap cells)[j * n + i]? = some u
  | [], j, _, _, _, hj, _ => by cases j <;> cases hj
  | a :: r, 0, x, i, u, hj, hi => by
    obtain rfl : a = x := by simpa using hj
    rw [List.flatMap_cons, Nat.zero_mul, Nat.zero_add, List.getElem?_append_left (List.getElem?_eq_some_iff.1 hi).1]
    exact hi
  | a :: r, j + 1, x, i, u, hj, hi => by
    rw [List.flatMap_cons, List.getElem?_append_right (by rw [hn, Nat.succ_mul]; omega), hn, show (j + 1) * n + i - n = j * n + i by rw [Nat.succ_mul]; omega]
    exact flat_get hn r j x i u (by simpa using hj) hi
/-- Cells of an owned row of a type whose cells are told by the data alone. -/
theorem row_own {α : Type} {n : Nat} {cells : α → List Value} {ok : α → Prop} {hn : ∀ x, (cells x).length = n} {w : World} {base : Nat} {e : TypeId} {v : Value} {xs : List α} (h : w.ownsRow base e n v xs.length (xs.flatMap cells)) (hok : ∀ x ∈ xs, ok x) :
    ∃ ao cap, v = .slice ao xs.length cap ∧ Row (leaf n cells ok hn) w ao xs.length cap xs := by
  rcases h.2 with ⟨h1, h2⟩ | ⟨g, cap, cur, h1, _, h3, h4, h5, _, _⟩
  · obtain rfl : xs = [] := List.eq_nil_of_length_eq_zero h2
    exact ⟨none, 0, h1, ⟨rfl, Nat.le_refl _, Nat.zero_le _, fun n => absurd rfl n⟩⟩
  · have hg : g < w.heap.size := by
      rcases Nat.lt_or_ge g w.heap.size with k | k
      · exact k
      · rw [Array.getElem?_eq_none k] at h3; cases h3
    subst h1
    refine ⟨some ⟨g, 0, none⟩, cap, rfl, ⟨rfl, h4, by unfold maxLen at h5; omega, fun _ => ⟨g, 0, rfl, hg, fun j x hj => ⟨cells x, ⟨rfl, hok x (List.mem_of_getElem? hj)⟩, fun i u hi => ?_⟩⟩⟩⟩
    have hjl := (List.getElem?_eq_some_iff.1 hj).1
    have hil : i < n := by rw [← hn x]; exact (List.getElem?_eq_some_iff.1 hi).1
    have hlt : j * n + i < xs.length * n := by
      have := Nat.mul_le_mul_right n (Nat.succ_le_of_lt hjl)
      rw [Nat.succ_mul] at this
      omega
    show w.cell? ⟨g, 0 + j * n + i, none⟩ = some u
    rw [Nat.zero_add, h.cellAt _ hlt]
    exact flat_get hn xs j x i u hj hi
section
variable {H : Type} {enc : TypeId × Value → H} {P : Program} {w : World} {base : Nat} {spare : Nat → Bool} {held : Bool}
theorem i64_wf {n : Int} (h : (Lit.int .i64 n).wf = true) : I64 n := by
  unfold I64
  simpa [Lit.wf, IntKind.min, IntKind.max, IntKind.signed, IntKind.bits] using h
theorem down_int {t : TypeId} {fuel : Nat} {cs : List Value} {x : DataW H × List MemPlace} (ht : P.underlying t = some (.int .i64)) (h : DataW.trod enc P w base spare held fuel t cs = some x) : ∃ n, cs = [.int .i64 n] ∧ I64 n := by
  obtain ⟨n, h1, _, h3⟩ := DataW.trod_int ht h
  exact ⟨n, h1, i64_wf h3⟩
theorem down_str {t : TypeId} {fuel : Nat} {cs : List Value} {x : DataW H × List MemPlace} (ht : P.underlying t = some .string) (h : DataW.trod enc P w base spare held fuel t cs = some x) : ∃ s : ByteArray, cs = [.string s] ∧ s.size ≤ 9223372036854775807 := by
  obtain ⟨s, h1, _, h3⟩ := DataW.trod_string ht h
  exact ⟨s, h1, h3⟩
/-- A struct's fields: each is read of its own cells. -/
theorem down_struct {t : TypeId} {fs : Array Field} {fuel : Nat} {cs : List Value} {x : DataW H × List MemPlace} (ht : P.underlying t = some (.struct fs)) (h : DataW.trod enc P w base spare held fuel t cs = some x) :
    cs.length = P.cellsOf t ∧ ∃ n, ∀ (i : Nat) (f : Field), fs[i]? = some f → ∃ y, DataW.trod enc P w base spare held n f.type ((cs.drop f.offset).take (P.cellsOf f.type)) = some y := by
  obtain ⟨xs, n, _, _, hl, hx, hf⟩ := DataW.trod_struct ht h
  refine ⟨hl, n, fun i f hi => ?_⟩
  have hlt : i < fs.size := (Array.getElem?_eq_some_iff.1 hi).1
  rw [hf i f hi, List.getElem?_eq_getElem (by omega)]
  exact ⟨_, rfl⟩
theorem piece {α : Type} {cs p r : List α} {a k : Nat} (h1 : (cs.drop a).take k = p) (h2 : cs.drop (a + k) = r) : cs.drop a = p ++ r := by
  rw [← h1, ← h2, ← List.drop_drop, List.take_append_drop]
theorem piece_end {α : Type} {cs : List α} {a : Nat} (h : cs.length = a) : cs.drop a = [] := List.drop_eq_nil_iff.2 (by omega)
theorem piece_all {α : Type} {cs p : List α} (h : cs.drop 0 = p) : cs = p := h
theorem cell_plain {w : World} {a : Addr} {v : Value} (h : w.cell? a = some v) : a.spot = none := by
  unfold World.cell? at h
  split at h
  · cases hs : a.spot with
    | none => rfl
    | some k => rw [hs] at h; simp at h
  · cases h
theorem add_plain (b o k : Nat) : (⟨b, o, none⟩ : Addr).add k = ⟨b, o + k, none⟩ := by
  unfold Addr.add
  by_cases h : k = 0
  · subst h; rfl
  · rw [if_neg h]
theorem down_row {α : Type} [Inhabited α] {T : Ty α} {t e : TypeId} {fuel : Nat} {cs : List Value} {x : DataW H × List MemPlace} (ht : P.underlying t = some (.slice e)) (hC : P.cellsOf e = T.n) (hpos : 0 < T.n)
    (ho : ∀ fuel cs x, DataW.trod enc P w base spare held fuel e cs = some x → ∃ y, T.lies w cs y) (h : DataW.trod enc P w base spare held fuel t cs = some x) :
    ∃ ao len cap xs, cs = [.slice ao len cap] ∧ Row T w ao len cap xs := by
  rcases open_slice ht h with ⟨h0, _⟩ | ⟨a, len, cap, m, n, D, Pl, hcs, hb, hl, hm, hmm, hx, hi⟩
  · exact ⟨none, 0, 0, [], h0, ⟨rfl, Nat.le_refl _, Nat.zero_le _, fun n => absurd rfl n⟩⟩
  · have hlm : len ≤ m := by rw [hmm]; split <;> omega
    obtain ⟨f, hf⟩ := choose_lt (n := len) (p := fun i y => ∃ cs', T.lies w cs' y ∧ ∀ k v, cs'[k]? = some v → w.cell? (a.add (i * T.n + k)) = some v) (fun i hil => by
      obtain ⟨cs', h1, h2⟩ := hi i (by omega)
      obtain ⟨y, hy⟩ := ho _ _ _ h2
      rw [hC] at h1
      obtain ⟨_, hlen, hat⟩ := World.cells?_some h1
      refine ⟨y, cs', hy, fun k v hk => ?_⟩
      have hkl : k < T.n := by rw [← hlen]; exact (List.getElem?_eq_some_iff.1 hk).1
      rw [← Go.Deep.add_add, hat k hkl]
      exact hk)
    refine ⟨some a, len, cap, (List.range len).map f, hcs, ⟨by simp, hl, hm, fun hne => ?_⟩⟩
    have h0 : 0 < len := by
      rcases Nat.eq_zero_or_pos len with k | k
      · subst k; simp at hne
      · exact k
    obtain ⟨cs0, l0, g0⟩ := hf 0 h0
    have hlen0 := T.len l0
    have hc0 : cs0[0]? = some (cs0[0]'(by omega)) := List.getElem?_eq_getElem (by omega)
    have hcell := g0 0 _ hc0
    have hsp : a.spot = none := by
      have : a.add (0 * T.n + 0) = a := by rw [Nat.zero_mul]; rfl
      rw [this] at hcell
      exact cell_plain hcell
    obtain ⟨b, o, s⟩ := a
    obtain rfl : s = none := hsp
    refine ⟨b, o, rfl, ?_, fun j y hj => ?_⟩
    · have := World.block_lt_of_cell? w _ hcell
      rw [add_plain] at this
      exact this
    · have hjl : j < len := by
        have := (List.getElem?_eq_some_iff.1 hj).1
        simpa using this
      rw [List.getElem?_map, List.getElem?_range hjl] at hj
      simp only [Option.map_some, Option.some.injEq] at hj
      obtain ⟨cs', g1, g2⟩ := hf j hjl
      rw [hj] at g1
      refine ⟨cs', g1, fun i v hi => ?_⟩
      have := g2 i v hi
      rw [add_plain] at this
      rw [Nat.add_assoc]
      exact this
end
end Go.Proofs.YtjgogpaedaffkaaGreat.Mm
/- Plans in memory (api.Plan and its parts), and the plain data that they hold. -/
namespace Go.Proofs.YtjgogpaedaffkaaGreat.Mm
open Go.RowKit Go.Deep Go.ChangeShapes Go.WideShapes P
structure Day where
  y : Int
  m : Int
  d : Int
deriving Inhabited, DecidableEq
structure Win where
  has : Bool
  a : Day
  b : Day
deriving Inhabited, DecidableEq
structure Meter where
  name : ByteArray
  unit : ByteArray
  max : Int
  line : Int
  col : Int
deriving Inhabited
structure Fee where
  amount : Int
  win : Win
  line : Int
  col : Int
deriving Inhabited, DecidableEq
structure Tier where
  upto : Int
  rate : Int
deriving Inhabited, DecidableEq
structure Adj where
  kind : Int
  num : Int
  mode : Int
deriving Inhabited, DecidableEq
structure Charge where
  meter : ByteArray
  win : Win
  allowance : Int
  block : Int
  kind : Int
  tiers : List Tier
  mode : Int
  adjusts : List Adj
  line : Int
  col : Int
deriving Inhabited
structure Plan where
  name : ByteArray
  cur : ByteArray
  a : Day
  b : Day
  meters : List Meter
  fees : List Fee
  charges : List Charge
  line : Int
  col : Int
deriving Inhabited
def dayOk (d : Day) : Prop := I64 d.y ∧ I64 d.m ∧ I64 d.d
def winOk (w : Win) : Prop := dayOk w.a ∧ dayOk w.b
def strOk (s : ByteArray) : Prop := s.size ≤ 9223372036854775807
def meterC (m : Meter) : List Value := [.string m.name, .string m.unit, .int .i64 m.max, .int .i64 m.line, .int .i64 m.col]
def feeC (f : Fee) : List Value := [.int .i64 f.amount, .bool f.win.has, .int .i64 f.win.a.y, .int .i64 f.win.a.m, .int .i64 f.win.a.d, .int .i64 f.win.b.y, .int .i64 f.win.b.m, .int .i64 f.win.b.d, .int .i64 f.line, .int .i64 f.col]
def tierC (t : Tier) : List Value := [.int .i64 t.upto, .int .i64 t.rate]
def adjC (a : Adj) : List Value := [.int .i64 a.kind, .int .i64 a.num, .int .i64 a.mode]
def tMeter : Ty Meter := leaf 5 meterC (fun m => strOk m.name ∧ strOk m.unit ∧ I64 m.max ∧ I64 m.line ∧ I64 m.col) (fun _ => rfl)
def tFee : Ty Fee := leaf 10 feeC (fun f => I64 f.amount ∧ winOk f.win ∧ I64 f.line ∧ I64 f.col) (fun _ => rfl)
def tTier : Ty Tier := leaf 2 tierC (fun t => I64 t.upto ∧ I64 t.rate) (fun _ => rfl)
def tAdj : Ty Adj := leaf 3 adjC (fun a => I64 a.kind ∧ I64 a.num ∧ I64 a.mode) (fun _ => rfl)
def chargeC (c : Charge) (ta : Option Addr) (tc : Nat) (aa : Option Addr) (ac : Nat) : List Value :=
  [.string c.meter, .bool c.win.has, .int .i64 c.win.a.y, .int .i64 c.win.a.m, .int .i64 c.win.a.d, .int .i64 c.win.b.y, .int .i64 c.win.b.m, .int .i64 c.win.b.d,
    .int .i64 c.allowance, .int .i64 c.block, .int .i64 c.kind, .slice ta c.tiers.length tc, .int .i64 c.mode, .slice aa c.adjusts.length ac, .int .i64 c.line, .int .i64 c.col]
structure ChargeLies (w : World) (cs : List Value) (c : Charge) (ta : Option Addr) (tc : Nat) (aa : Option Addr) (ac : Nat) : Prop where
  cells : cs = chargeC c ta tc aa ac
  tiers : Row tTier w ta c.tiers.length tc c.tiers
  adjusts : Row tAdj w aa c.adjusts.length ac c.adjusts
  meter : strOk c.meter
  win : winOk c.win
  nums : I64 c.allowance ∧ I64 c.block ∧ I64 c.kind ∧ I64 c.mode ∧ I64 c.line ∧ I64 c.col
def tCharge : Ty Charge where
  n := 16
  lies := fun w cs c => ∃ ta tc aa ac, ChargeLies w cs c ta tc aa ac
  len := fun ⟨_, _, _, _, h⟩ => by rw [h.cells]; rfl
  keep := fun ⟨ta, tc, aa, ac, h⟩ hb => ⟨ta, tc, aa, ac, h.cells, h.tiers.on hb, h.adjusts.on hb, h.meter, h.win, h.nums⟩
def planC (p : Plan) (ma : Option Addr) (mc : Nat) (fa : Option Addr) (fc : Nat) (ca : Option Addr) (cc : Nat) : List Value :=
  [.string p.name, .string p.cur, .int .i64 p.a.y, .int .i64 p.a.m, .int .i64 p.a.d, .int .i64 p.b.y, .int .i64 p.b.m, .int .i64 p.b.d,
    .slice ma p.meters.length mc, .slice fa p.fees.length fc, .slice ca p.charges.length cc, .int .i64 p.line, .int .i64 p.col]
structure PlanLies (w : World) (cs : List Value) (p : Plan) (ma : Option Addr) (mc : Nat) (fa : Option Addr) (fc : Nat) (ca : Option Addr) (cc : Nat) : Prop where
  cells : cs = planC p ma mc fa fc ca cc
  meters : Row tMeter w ma p.meters.length mc p.meters
  fees : Row tFee w fa p.fees.length fc p.fees
  charges : Row tCharge w ca p.charges.length cc p.charges
  name : strOk p.name ∧ strOk p.cur
  days : dayOk p.a ∧ dayOk p.b
  place : I64 p.line ∧ I64 p.col
theorem PlanLies.on {w w' : World} {cs : List Value} {p : Plan} {ma : Option Addr} {mc : Nat} {fa : Option Addr} {fc : Nat} {ca : Option Addr} {cc : Nat} (h : PlanLies w cs p ma mc fa fc ca cc) (hb : Below w.heap.size w w') : PlanLies w' cs p ma mc fa fc ca cc :=
  ⟨h.cells, h.meters.on hb, h.fees.on hb, h.charges.on hb, h.name, h.days, h.place⟩
section
variable {H : Type} {enc : TypeId × Value → H} {w : World} {base : Nat} {spare : Nat → Bool} {held : Bool}
theorem fld {Pr : Program} {fs : Array Field} {n : Nat} {cs : List Value} (hf : ∀ (i : Nat) (f : Field), fs[i]? = some f → ∃ y, DataW.trod enc Pr w base spare held n f.type ((cs.drop f.offset).take (Pr.cellsOf f.type)) = some y)
    (i : Nat) (f : Field) (hi : fs[i]? = some f) (k : Nat) (hk : Pr.cellsOf f.type = k) : ∃ y, DataW.trod enc Pr w base spare held n f.type ((cs.drop f.offset).take k) = some y := by
  rw [← hk]; exact hf i f hi
theorem down_meter {fuel : Nat} {cs : List Value} {x : DataW H × List MemPlace} (h : DataW.trod enc Tryz.prog w base spare held fuel 39 cs = some x) : ∃ y, tMeter.lies w cs y := by
  obtain ⟨hl, n, hf⟩ := down_struct Tryz.underlying39 h
  obtain ⟨_, h0⟩ := fld hf 0 _ rfl 1 (by kernel_rfl)
  obtain ⟨_, h1⟩ := fld hf 1 _ rfl 1 (by kernel_rfl)
  obtain ⟨_, h2⟩ := fld hf 2 _ rfl 1 (by kernel_rfl)
  obtain ⟨_, h3⟩ := fld hf 3 _ rfl 1 (by kernel_rfl)
  obtain ⟨_, h4⟩ := fld hf 4 _ rfl 1 (by kernel_rfl)
  obtain ⟨a, e0, g0⟩ := down_str Tryz.underlying9 h0
  obtain ⟨b, e1, g1⟩ := down_str Tryz.underlying9 h1
  obtain ⟨c, e2, g2⟩ := down_int Tryz.underlying3 h2
  obtain ⟨d, e3, g3⟩ := down_int Tryz.underlying3 h3
  obtain ⟨e, e4, g4⟩ := down_int Tryz.underlying3 h4
  rw [show Tryz.prog.cellsOf 39 = 5 by kernel_rfl] at hl
  exact ⟨⟨a, b, c, d, e⟩, piece_all (piece (k := 1) e0 (piece (k := 1) e1 (piece (k := 1) e2 (piece (k := 1) e3 (piece (k := 1) e4 (piece_end hl)))))), g0, g1, g2, g3, g4⟩
theorem down_tier {fuel : Nat} {cs : List Value} {x : DataW H × List MemPlace} (h : DataW.trod enc Tryz.prog w base spare held fuel 54 cs = some x) : ∃ y, tTier.lies w cs y := by
  obtain ⟨hl, n, hf⟩ := down_struct Tryz.underlying54 h
  obtain ⟨_, h0⟩ := fld hf 0 _ rfl 1 (by kernel_rfl)
  obtain ⟨_, h1⟩ := fld hf 1 _ rfl 1 (by kernel_rfl)
  obtain ⟨a, e0, g0⟩ := down_int Tryz.underlying3 h0
  obtain ⟨b, e1, g1⟩ := down_int Tryz.underlying3 h1
  rw [show Tryz.prog.cellsOf 54 = 2 by kernel_rfl] at hl
  exact ⟨⟨a, b⟩, piece_all (piece (k := 1) e0 (piece (k := 1) e1 (piece_end hl))), g0, g1⟩
theorem down_adj {fuel : Nat} {cs : List Value} {x : DataW H × List MemPlace} (h : DataW.trod enc Tryz.prog w base spare held fuel 115 cs = some x) : ∃ y, tAdj.lies w cs y := by
  obtain ⟨hl, n, hf⟩ := down_struct Tryz.underlying115 h
  obtain ⟨_, h0⟩ := fld hf 0 _ rfl 1 (by kernel_rfl)
  obtain ⟨_, h1⟩ := fld hf 1 _ rfl 1 (by kernel_rfl)
  obtain ⟨_, h2⟩ := fld hf 2 _ rfl 1 (by kernel_rfl)
  obtain ⟨a, e0, g0⟩ := down_int Tryz.underlying3 h0
  obtain ⟨b, e1, g1⟩ := down_int Tryz.underlying3 h1
  obtain ⟨c, e2, g2⟩ := down_int Tryz.underlying3 h2
  rw [show Tryz.prog.cellsOf 115 = 3 by kernel_rfl] at hl
  exact ⟨⟨a, b, c⟩, piece_all (piece (k := 1) e0 (piece (k := 1) e1 (piece (k := 1) e2 (piece_end hl)))), g0, g1, g2⟩
end
end Go.Proofs.YtjgogpaedaffkaaGreat.Mm
/- The long division of 128 bits by 64, in halves of 32 bits: plain arithmetic; no program is named here. -/
namespace Go.Proofs.YtjgogpaedaffkaaGreat.P
open Go.RowKit
/-- What one step of the division knows: Q is the quotient sought, q the guess, r what the guess leaves by the upper half. -/
structure Guess (u y1 y0 c Q q r : Int) : Prop where
  eq : q * y1 + r = u
  le : Q ≤ q
  top : q ≤ 4294967297
  r0 : 0 ≤ r
  r1 : r < 4294967296
/-- What is fixed in a step: the divisor's halves, the number before it, the next half, the quotient sought. -/
structure Step (u y1 y0 c Q : Int) : Prop where
  y1l : 2147483648 ≤ y1
  y1u : y1 < 4294967296
  y0l : 0 ≤ y0
  y0u : y0 < 4294967296
  cl : 0 ≤ c
  cu : c < 4294967296
  ul : 0 ≤ u
  uu : u < y1 * 4294967296 + y0
  q1 : Q * (y1 * 4294967296 + y0) ≤ u * 4294967296 + c
  q2 : u * 4294967296 + c < Q * (y1 * 4294967296 + y0) + (y1 * 4294967296 + y0)
theorem lt_or_ge_i (a b : Int) : a < b ∨ b ≤ a := by omega
theorem spread (q y1 y0 : Int) : q * (y1 * 4294967296 + y0) = q * y1 * 4294967296 + q * y0 := by rw [Int.mul_add, Int.mul_assoc]
theorem Step.yes {u y1 y0 c Q q r : Int} (s : Step u y1 y0 c Q) (g : q * y1 + r = u) (h : 4294967296 * r + c < q * y0) : Q < q := by
  rcases lt_or_ge_i Q q with h1 | h1
  · exact h1
  · exfalso
    have h2 : q * (y1 * 4294967296 + y0) ≤ Q * (y1 * 4294967296 + y0) := Int.mul_le_mul_of_nonneg_right h1 (by have := s.y1l; have := s.y0l; omega)
    have h3 := s.q1
    rw [spread q] at h2
    omega
theorem Step.no {u y1 y0 c Q q r : Int} (s : Step u y1 y0 c Q) (g : q * y1 + r = u) (h : q * y0 ≤ 4294967296 * r + c) : q ≤ Q := by
  rcases lt_or_ge_i Q q with h1 | h1
  · exfalso
    have h2 : (Q + 1) * (y1 * 4294967296 + y0) ≤ q * (y1 * 4294967296 + y0) := Int.mul_le_mul_of_nonneg_right (by omega) (by have := s.y1l; have := s.y0l; omega)
    rw [Int.add_mul, Int.one_mul, spread q] at h2
    have h3 := s.q2
    omega
  · exact h1
theorem Step.small {u y1 y0 c Q : Int} (s : Step u y1 y0 c Q) : 0 ≤ Q ∧ Q < 4294967296 := by
  have hy : 0 < y1 * 4294967296 + y0 := by have := s.y1l; have := s.y0l; omega
  have a := s.q1; have b := s.q2; have c0 := s.cl; have c1 := s.cu; have u0 := s.ul; have u1 := s.uu
  constructor
  · rcases lt_or_ge_i Q 0 with h1 | h1
    · exfalso
      have h2 : (Q + 1) * (y1 * 4294967296 + y0) ≤ 0 * (y1 * 4294967296 + y0) := Int.mul_le_mul_of_nonneg_right (by omega) (by omega)
      rw [Int.add_mul, Int.one_mul, Int.zero_mul] at h2
      omega
    · exact h1
  · rcases lt_or_ge_i Q 4294967296 with h1 | h1
    · exact h1
    · exfalso
      have h2 : 4294967296 * (y1 * 4294967296 + y0) ≤ Q * (y1 * 4294967296 + y0) := Int.mul_le_mul_of_nonneg_right h1 (by omega)
      omega
theorem Step.start {u y1 y0 c Q : Int} (s : Step u y1 y0 c Q) : Guess u y1 y0 c Q (u / y1) (u % y1) := by
  have hy := s.y1l; have a0 := s.y0l; have a1 := s.y0u; have c0 := s.cl; have b := s.q1; have u0 := s.ul; have u1 := s.uu; have c1 := s.cu; have hy2 := s.y1u
  have e := Int.mul_ediv_add_emod u y1
  have p1 := Int.emod_nonneg u (show y1 ≠ 0 by omega)
  have p2 := Int.emod_lt_of_pos u (show 0 < y1 by omega)
  have e' : u / y1 * y1 + u % y1 = u := by rw [Int.mul_comm]; exact e
  refine ⟨e', ?_, ?_, p1, by omega⟩
  · -- the upper half alone can only give a greater quotient
    rcases lt_or_ge_i (u / y1) Q with h1 | h1
    · exfalso
      have h2 : (u / y1 + 1) * (y1 * 4294967296 + y0) ≤ Q * (y1 * 4294967296 + y0) := Int.mul_le_mul_of_nonneg_right (by omega) (by omega)
      rw [Int.add_mul, Int.one_mul, spread] at h2
      have h3 : 0 ≤ u / y1 * y0 := Int.mul_nonneg (Int.ediv_nonneg u0 (by omega)) a0
      omega
    · exact h1
  · rcases lt_or_ge_i 4294967297 (u / y1) with h1 | h1
    · exfalso
      have h2 : 4294967298 * y1 ≤ u / y1 * y1 := Int.mul_le_mul_of_nonneg_right (by omega) (by omega)
      omega
    · exact h1
/-- Both products of a test stay below 2^64. -/
theorem Step.fits {u y1 y0 c Q q r : Int} (s : Step u y1 y0 c Q) (g : Guess u y1 y0 c Q q r) (h : q < 4294967296) : 0 ≤ q * y0 ∧ q * y0 < 18446744073709551616 ∧ 0 ≤ q := by
  have h0 := s.small.1; have h1 := g.le; have a0 := s.y0l; have a1 := s.y0u
  have h2 : 0 ≤ q := by omega
  have h3 : q * y0 ≤ 4294967296 * y0 := Int.mul_le_mul_of_nonneg_right (by omega) a0
  exact ⟨Int.mul_nonneg h2 a0, by omega, h2⟩
theorem Step.big {u y1 y0 c Q q r : Int} (s : Step u y1 y0 c Q) (_g : Guess u y1 y0 c Q q r) (h : 4294967296 ≤ q) : Q < q := by
  have := s.small.2; omega
/-- One less: the guess holds, or it is the quotient. -/
theorem Guess.next {u y1 y0 c Q q r : Int} (s : Step u y1 y0 c Q) (g : Guess u y1 y0 c Q q r) (h : Q < q) (hr : r + y1 < 4294967296) : Guess u y1 y0 c Q (q - 1) (r + y1) := by
  have e := g.eq; have a := s.y1l; have b := g.r0; have t := g.top
  refine ⟨by rw [Int.sub_mul, Int.one_mul]; omega, by omega, by omega, by omega, hr⟩
theorem Guess.last {u y1 y0 c Q q r : Int} (s : Step u y1 y0 c Q) (g : Guess u y1 y0 c Q q r) (h : Q < q) (hr : 4294967296 ≤ r + y1) : q - 1 = Q := by
  have e := g.eq; have t := g.top; have a0 := s.y0l; have a1 := s.y0u; have c0 := s.cl
  have h1 : (q - 1) * y1 + (r + y1) = u := by rw [Int.sub_mul, Int.one_mul]; omega
  have h2 : (q - 1) * y0 ≤ 4294967296 * y0 := Int.mul_le_mul_of_nonneg_right (by omega) a0
  have h3 := s.no h1 (by omega)
  omega
theorem Guess.done {u y1 y0 c Q q r : Int} (s : Step u y1 y0 c Q) (g : Guess u y1 y0 c Q q r) (h : q * y0 ≤ 4294967296 * r + c) : q = Q := by
  have h1 := s.no g.eq h
  have h2 := g.le
  omega
theorem u64_in {n : Int} (h0 : 0 ≤ n) (h1 : n < 18446744073709551616) : IntKind.u64.wrap n = n := by rw [u64_mod]; omega
theorem and32 {n : Int} (h0 : 0 ≤ n) (h1 : n < 18446744073709551616) : bits .and .u64 n 4294967295 = n % 4294967296 := by
  obtain ⟨a, rfl⟩ := Int.eq_ofNat_of_zero_le h0
  have h := bits_and_u64_nat a 4294967295 (by omega) (by omega)
  rw [Nat.and_two_pow_sub_one_eq_mod a 32] at h
  rw [show (4294967295 : Int) = ((4294967295 : Nat) : Int) from rfl, h]
  omega
/-- Where the parts do not meet, 'or' is 'plus'. -/
theorem or_parts {a b : Int} {s : Nat} (ha : 0 ≤ a) (hb : 0 ≤ b) (hb2 : b < 2 ^ s) (h : a * 2 ^ s + b < 18446744073709551616) :
    bits .or .u64 (a * 2 ^ s) b = a * 2 ^ s + b := by
  obtain ⟨x, rfl⟩ := Int.eq_ofNat_of_zero_le ha
  obtain ⟨z, rfl⟩ := Int.eq_ofNat_of_zero_le hb
  have e1 : ((x : Int) * 2 ^ s) = ((x * 2 ^ s : Nat) : Int) := by rw [Int.natCast_mul, Int.natCast_pow]; rfl
  have e2 : ((2 : Int) ^ s) = ((2 ^ s : Nat) : Int) := by rw [Int.natCast_pow]; rfl
  rw [e1] at h ⊢
  rw [e2] at hb2
  rw [bits_or_u64_nat _ _ (by omega) (by omega)]
  have h2 : z < 2 ^ s := by omega
  have h3 : x * 2 ^ s ||| z = x * 2 ^ s + z := by
    rw [Nat.mul_comm, Nat.two_pow_add_eq_or_of_lt h2]
  rw [h3]; omega
/-- The whole division, cut at its front: what the program's shifted numbers are. -/
theorem div_front {hi lo y : Int} {s : Nat} (h1 : 0 < hi) (h2 : hi < y) (h4 : 0 ≤ lo) (h5 : lo ≤ 18446744073709551615) (hs : s ≤ 63)
    (n1 : 9223372036854775808 ≤ y * 2 ^ s) (n2 : y * 2 ^ s < 18446744073709551616) :
    ∃ u y1 y0 c1 c0 : Int, bits .and .u64 (y * 2 ^ s) 4294967295 = y0 ∧ y * 2 ^ s / 4294967296 = y1 ∧
      bits .or .u64 (IntKind.u64.wrap (hi * 2 ^ s)) (lo / 2 ^ (64 - s)) = u ∧ IntKind.u64.wrap (lo * 2 ^ s) / 4294967296 = c1 ∧
      bits .and .u64 (IntKind.u64.wrap (lo * 2 ^ s)) 4294967295 = c0 ∧
      y * 2 ^ s = y1 * 4294967296 + y0 ∧ (u * 4294967296 + c1) * 4294967296 + c0 = (hi * 18446744073709551616 + lo) * 2 ^ s ∧
      0 ≤ u ∧ u < y * 2 ^ s ∧ 2147483648 ≤ y1 ∧ y1 < 4294967296 ∧ 0 ≤ y0 ∧ y0 < 4294967296 ∧ 0 ≤ c1 ∧ c1 < 4294967296 ∧ 0 ≤ c0 ∧ c0 < 4294967296 := by
  have hp : (0 : Int) < 2 ^ s := Int.pow_pos (by omega)
  have hp' : (0 : Int) < 2 ^ (64 - s) := Int.pow_pos (by omega)
  have e64 : (2 : Int) ^ (64 - s) * 2 ^ s = 18446744073709551616 := by rw [← Int.pow_add, show 64 - s + s = 64 by omega]; rfl
  -- lo in its upper s bits and the rest
  have dl := Int.mul_ediv_add_emod lo (2 ^ (64 - s))
  have dl0 := Int.emod_nonneg lo (show (2 : Int) ^ (64 - s) ≠ 0 by omega)
  have dl1 := Int.emod_lt_of_pos lo hp'
  generalize hA : lo / 2 ^ (64 - s) = A at *
  generalize hR : lo % 2 ^ (64 - s) = R at *
  have hA0 : 0 ≤ A := by rw [← hA]; exact Int.ediv_nonneg h4 (by omega)
  have hA1 : A < 2 ^ s := by
    rcases lt_or_ge_i A (2 ^ s) with h | h
    · exact h
    · exfalso
      have : 2 ^ (64 - s) * 2 ^ s ≤ 2 ^ (64 - s) * A := Int.mul_le_mul_of_nonneg_left h (by omega)
      omega
  have hlo : lo * 2 ^ s = 18446744073709551616 * A + R * 2 ^ s := by
    rw [← dl, Int.add_mul, Int.mul_assoc, Int.mul_comm A, ← Int.mul_assoc, e64]
  have hR1 : R * 2 ^ s < 18446744073709551616 := by
    rw [← e64]; exact Int.mul_lt_mul_of_pos_right dl1 hp
  have hR0 : 0 ≤ R * 2 ^ s := Int.mul_nonneg dl0 (by omega)
  have hlw : IntKind.u64.wrap (lo * 2 ^ s) = R * 2 ^ s := by rw [hlo, u64_mod]; omega
  have hhy : (hi + 1) * 2 ^ s ≤ y * 2 ^ s := Int.mul_le_mul_of_nonneg_right (by omega) (by omega)
  rw [Int.add_mul, Int.one_mul] at hhy
  have hh0 : 0 ≤ hi * 2 ^ s := Int.mul_nonneg (by omega) (by omega)
  have hhw : IntKind.u64.wrap (hi * 2 ^ s) = hi * 2 ^ s := u64_in hh0 (by omega)
  have hor : bits .or .u64 (IntKind.u64.wrap (hi * 2 ^ s)) A = hi * 2 ^ s + A := by
    rw [hhw]; exact or_parts (by omega) hA0 hA1 (by omega)
  have hall : (hi * 18446744073709551616 + lo) * 2 ^ s = hi * 2 ^ s * 18446744073709551616 + lo * 2 ^ s := by
    rw [Int.add_mul, Int.mul_assoc, Int.mul_comm 18446744073709551616, ← Int.mul_assoc]
  refine ⟨hi * 2 ^ s + A, y * 2 ^ s / 4294967296, y * 2 ^ s % 4294967296, R * 2 ^ s / 4294967296, R * 2 ^ s % 4294967296, and32 (by omega) n2, rfl, hor, by rw [hlw], by rw [hlw]; exact and32 hR0 hR1, by omega, ?_, by omega, by omega, by omega, by omega, by omega, by omega, by omega, by omega, by omega, by omega⟩
  rw [hall, hlo]
  omega
/-- The second step's number is what the first step left. -/
theorem mid {u y1 y0 c Q R : Int} (q1 : u * 4294967296 + c = Q * (y1 * 4294967296 + y0) + R) (r0 : 0 ≤ R) (r1 : R < 18446744073709551616) :
    IntKind.u64.wrap (IntKind.u64.wrap (IntKind.u64.wrap (u * 4294967296) + c) - IntKind.u64.wrap (Q * (y1 * 4294967296 + y0))) = R := by
  rw [u64_mod, u64_mod, u64_mod, u64_mod]; omega
theorem div_back {n y u c1 c0 Y Q1 R1 Q0 R0 p : Int} (hp : 0 < p) (hy : 0 < y) (hY : y * p = Y) (hn : (u * 4294967296 + c1) * 4294967296 + c0 = n * p)
    (h1 : u * 4294967296 + c1 = Q1 * Y + R1) (h0 : R1 * 4294967296 + c0 = Q0 * Y + R0) (r0 : 0 ≤ R0) (r1 : R0 < Y) :
    Q1 * 4294967296 + Q0 = n / y ∧ R0 / p = n % y := by
  have e1 : n * p = (Q1 * 4294967296 + Q0) * Y + R0 := by rw [Int.add_mul, Int.mul_right_comm]; omega
  have e2 : R0 = (n - (Q1 * 4294967296 + Q0) * y) * p := by rw [Int.sub_mul, Int.mul_assoc, hY]; omega
  generalize hD : n - (Q1 * 4294967296 + Q0) * y = D at *
  have d0 : 0 ≤ D := by
    rcases lt_or_ge_i D 0 with h | h
    · exfalso
      have : (D + 1) * p ≤ 0 * p := Int.mul_le_mul_of_nonneg_right (by omega) (by omega)
      rw [Int.add_mul] at this; omega
    · exact h
  have d1 : D < y := by
    rcases lt_or_ge_i D y with h | h
    · exact h
    · exfalso
      have : y * p ≤ D * p := Int.mul_le_mul_of_nonneg_right h (by omega)
      omega
  have hq : n = D + y * (Q1 * 4294967296 + Q0) := by rw [Int.mul_comm]; omega
  refine ⟨?_, ?_⟩
  · rw [hq, Int.add_mul_ediv_left _ _ (by omega), Int.ediv_eq_zero_of_lt d0 d1]; omega
  · rw [e2, Int.mul_ediv_cancel _ (by omega), hq, Int.add_mul_emod_self_left, Int.emod_eq_of_lt d0 d1]
theorem quot_join {Q1 Q0 : Int} (a : 0 ≤ Q1) (b : Q1 < 4294967296) (c : 0 ≤ Q0) (d : Q0 < 4294967296) : IntKind.u64.wrap (IntKind.u64.wrap (Q1 * 4294967296) + Q0) = Q1 * 4294967296 + Q0 := by
  rw [u64_mod, u64_mod]; omega
theorem quot_wrap {u y1 : Int} (h0 : 0 ≤ u) (h1 : u < 18446744073709551616) (h : 0 < y1) : IntKind.u64.wrap (u.tdiv y1) = u / y1 := by
  rw [Int.tdiv_eq_ediv_of_nonneg h0]
  exact u64_in (Int.ediv_nonneg h0 (by omega)) (by have := Int.ediv_le_self y1 h0; omega)
theorem rest_wrap {u y1 : Int} (h0 : 0 ≤ u) (h1 : u < 18446744073709551616) (h : 0 < y1) : IntKind.u64.wrap (u - IntKind.u64.wrap (u / y1 * y1)) = u % y1 := by
  have a1 := Int.mul_ediv_add_emod u y1
  have a2 := Int.emod_nonneg u (show y1 ≠ 0 by omega)
  have a3 : 0 ≤ u / y1 * y1 := Int.mul_nonneg (Int.ediv_nonneg h0 (by omega)) (by omega)
  rw [Int.mul_comm] at a1
  rw [u64_mod, u64_mod]
  omega
theorem cut_num (n y : Int) (h : 0 < y) : ∃ Q R : Int, n = Q * y + R ∧ 0 ≤ R ∧ R < y :=
  ⟨n / y, n % y, by have := Int.mul_ediv_add_emod n y; rw [Int.mul_comm] at this; omega, Int.emod_nonneg _ (by omega), Int.emod_lt_of_pos _ h⟩
end Go.Proofs.YtjgogpaedaffkaaGreat.P
/- Rounding, as plain arithmetic: no program is named here. -/
namespace Go.Proofs.YtjgogpaedaffkaaGreat.P
open Go.RowKit
/-- Whether what is left is rounded up: q the number below, r the rest of c parts. -/
def rup (q r c mode : Int) : Bool :=
  if mode = 0 then false else if mode = 1 then decide (0 < r) else if mode = 2 then decide (c ≤ 2 * r) else decide (c < 2 * r) || (decide (2 * r = c) && decide (q % 2 ≠ 0))
/-- p by c, rounded. -/
def rnd (p c mode : Int) : Int := p / c + (if rup (p / c) (p % c) c mode = true then 1 else 0)
def goodm (mode : Int) : Bool := decide (0 ≤ mode) && decide (mode ≤ 3)
theorem goodm_iff (mode : Int) : goodm mode = true ↔ 0 ≤ mode ∧ mode ≤ 3 := by unfold goodm; simp
def mdok (c mode : Int) : Bool := decide (0 < c) && goodm mode
/-- What MulDiv answers. -/
def mdn (p c mode : Int) : Int := if mdok c mode = true then cut64 (rnd p c mode) else 0
def mdb (p c mode : Int) : Bool := mdok c mode && ok64 (rnd p c mode)
theorem mdn_good {p c mode : Int} (hc : 0 < c) (hm : goodm mode = true) : mdn p c mode = cut64 (rnd p c mode) := by unfold mdn mdok; simp [hc, hm]
theorem mdb_good {p c mode : Int} (hc : 0 < c) (hm : goodm mode = true) : mdb p c mode = ok64 (rnd p c mode) := by unfold mdb mdok; simp [hc, hm]
theorem mdn_c {p c mode : Int} (hc : c ≤ 0) : mdn p c mode = 0 := by unfold mdn mdok; rw [decide_eq_false (by omega : ¬ 0 < c)]; simp
theorem mdb_c {p c mode : Int} (hc : c ≤ 0) : mdb p c mode = false := by unfold mdb mdok; rw [decide_eq_false (by omega : ¬ 0 < c)]; simp
theorem mdn_m {p c mode : Int} (hm : goodm mode = false) : mdn p c mode = 0 := by unfold mdn mdok; rw [hm]; simp
theorem mdb_m {p c mode : Int} (hm : goodm mode = false) : mdb p c mode = false := by unfold mdb mdok; rw [hm]; simp
/-- Whether rounding leads away from 0: of a size. -/
def outB (q r c : Int) (below : Bool) (mode : Int) : Bool :=
  if r = 0 then false else if mode = 0 then below else if mode = 1 then !below else if ¬ 2 * r = c then decide (c < 2 * r) else if mode = 2 then !below else decide (q % 2 = 1)
def sgnB (below : Bool) (n : Int) : Int := if below = true then -n else n
theorem neg_div_zero {m c : Int} (hc : 0 < c) (h : m % c = 0) : (-m) / c = -(m / c) ∧ (-m) % c = 0 := by
  have e := Int.mul_ediv_add_emod m c
  have hm : -m = 0 + c * (-(m / c)) := by rw [Int.mul_neg]; omega
  refine ⟨?_, ?_⟩
  · rw [hm, Int.add_mul_ediv_left _ _ (by omega)]; simp
  · rw [hm, Int.add_mul_emod_self_left]; simp
theorem neg_div_pos {m c : Int} (hc : 0 < c) (h : m % c ≠ 0) : (-m) / c = -(m / c) - 1 ∧ (-m) % c = c - m % c := by
  have e := Int.mul_ediv_add_emod m c
  have p1 := Int.emod_nonneg m (show c ≠ 0 by omega)
  have p2 := Int.emod_lt_of_pos m hc
  have hm : -m = (c - m % c) + c * (-(m / c) - 1) := by rw [Int.mul_sub, Int.mul_neg]; omega
  refine ⟨?_, ?_⟩
  · rw [hm, Int.add_mul_ediv_left _ _ (by omega), Int.ediv_eq_zero_of_lt (by omega) (by omega)]; omega
  · rw [hm, Int.add_mul_emod_self_left, Int.emod_eq_of_lt (by omega) (by omega)]
theorem out_rnd {m c mode : Int} (b : Bool) (hc : 0 < c) (hm : goodm mode = true) :
    sgnB b (m / c + (if outB (m / c) (m % c) c b mode = true then 1 else 0)) = rnd (sgnB b m) c mode := by
  have hg := (goodm_iff mode).1 hm
  have p1 := Int.emod_nonneg m (show c ≠ 0 by omega)
  have p2 := Int.emod_lt_of_pos m hc
  have hmode : mode = 0 ∨ mode = 1 ∨ mode = 2 ∨ mode = 3 := by omega
  cases b
  · show m / c + _ = rnd m c mode
    unfold rnd rup outB
    generalize m / c = q at *
    generalize m % c = r at *
    rcases hmode with rfl | rfl | rfl | rfl <;> simp <;> (repeat' split) <;> omega
  · show -(m / c + _) = rnd (-m) c mode
    by_cases h0 : m % c = 0
    · have e := neg_div_zero hc h0
      unfold rnd
      rw [e.1, e.2, h0]
      have e1 : rup (-(m / c)) 0 c mode = false := by
        unfold rup
        rcases hmode with rfl | rfl | rfl | rfl <;> simp <;> omega
      rw [e1]
      unfold outB
      simp
    · have e := neg_div_pos hc h0
      unfold rnd
      rw [e.1, e.2]
      unfold rup outB
      generalize m / c = q at *
      generalize m % c = r at *
      rcases hmode with rfl | rfl | rfl | rfl <;> simp [h0] <;> (repeat' split) <;> omega
theorem rnd_ge (p c mode : Int) : p / c ≤ rnd p c mode ∧ rnd p c mode ≤ p / c + 1 := by unfold rnd; split <;> omega
theorem rnd_sgn_big {m c mode : Int} (b : Bool) (hc : 0 < c) (hm : goodm mode = true) (h : 18446744073709551616 ≤ m / c + (if outB (m / c) (m % c) c b mode = true then 1 else 0)) : ¬ I64 (rnd (sgnB b m) c mode) := by
  rw [← out_rnd b hc hm]
  intro hi
  unfold I64 at hi
  cases b <;> simp only [sgnB, if_true, if_false, Bool.false_eq_true] at hi <;> omega
theorem big_quot {m : Nat} {c : Int} (hc : 0 < c) (h : c ≤ (hiN m : Int)) : 18446744073709551616 ≤ (m : Int) / c := by
  have e := hi_lo m
  exact Int.le_ediv_of_mul_le hc (by omega)
theorem small_quot {m : Nat} {c : Int} (hc : 0 < c) (h : ¬ c ≤ (hiN m : Int)) : 0 ≤ (m : Int) / c ∧ (m : Int) / c < 18446744073709551616 := by
  have e := hi_lo m
  have l := loN_lt m
  exact ⟨Int.ediv_nonneg (by omega) (by omega), Int.ediv_lt_of_lt_mul hc (by omega)⟩
theorem hi_lo_int (m : Nat) : (hiN m : Int) * 18446744073709551616 + (loN m : Int) = (m : Int) := by have := hi_lo m; omega
theorem rup1 (q r c : Int) : rup q r c 1 = decide (0 < r) := by unfold rup; simp
theorem rup2 (q r c : Int) : rup q r c 2 = decide (c ≤ 2 * r) := by unfold rup; simp
theorem rup3 (q r c : Int) : rup q r c 3 = (decide (c < 2 * r) || (decide (2 * r = c) && decide (q % 2 ≠ 0))) := by unfold rup; simp
theorem edge_far {p c d mode : Int} (hc : 0 < c) (hd : c ≤ d) (hp : p = -9223372036854775808 * c - d) : ¬ I64 (rnd p c mode) := by
  have h1 : p / c < -9223372036854775808 := Int.ediv_lt_of_lt_mul hc (by omega)
  have h2 : p / c ≤ -9223372036854775808 - 1 := by omega
  by_cases h3 : d = c
  · -- just one below: nothing is left
    have e : p = 0 + c * (-9223372036854775809) := by omega
    have q : p / c = -9223372036854775809 := by rw [e, Int.add_mul_ediv_left _ _ (by omega)]; simp
    have r : p % c = 0 := by rw [e, Int.add_mul_emod_self_left]; simp
    unfold rnd
    rw [q, r]
    have : rup (-9223372036854775809) 0 c mode = false := by unfold rup; (repeat' split) <;> simp <;> omega
    rw [this]
    unfold I64; simp
  · have h4 : p / c < -9223372036854775809 := Int.ediv_lt_of_lt_mul hc (by omega)
    have := rnd_ge p c mode
    unfold I64; omega
theorem edge_near {p c d mode : Int} (hd0 : 0 < d) (hd : d < c) (hp : p = -9223372036854775808 * c - d) :
    rnd p c mode = -9223372036854775809 + (if rup (-9223372036854775809) (c - d) c mode = true then 1 else 0) := by
  have e : p = (c - d) + c * (-9223372036854775809) := by omega
  have q : p / c = -9223372036854775809 := by rw [e, Int.add_mul_ediv_left _ _ (by omega), Int.ediv_eq_zero_of_lt (by omega) (by omega)]; simp
  have r : p % c = c - d := by rw [e, Int.add_mul_emod_self_left, Int.emod_eq_of_lt (by omega) (by omega)]
  unfold rnd
  rw [q, r]
theorem edge_yes {p c d mode : Int} (hd0 : 0 < d) (hd : d < c) (hp : p = -9223372036854775808 * c - d) (h : mode = 1 ∨ ((mode = 2 ∨ mode = 3) ∧ d ≤ c - d)) :
    cut64 (rnd p c mode) = -9223372036854775808 ∧ ok64 (rnd p c mode) = true := by
  have r : rup (-9223372036854775809) (c - d) c mode = true := by
    clear hp
    rcases h with rfl | ⟨rfl | rfl, h⟩
    · rw [rup1]; exact decide_eq_true (by omega)
    · rw [rup2]; exact decide_eq_true (by omega)
    · rw [rup3, show decide ((-9223372036854775809 : Int) % 2 ≠ 0) = true from by decide]; simp; omega
  have e := edge_near (mode := mode) hd0 hd hp
  rw [r] at e
  rw [if_pos rfl] at e
  have e2 : rnd p c mode = -9223372036854775808 := by omega
  rw [e2]
  exact ⟨cut64_t (by unfold I64; omega), ok64_t (by unfold I64; omega)⟩
theorem edge_no {p c d mode : Int} (hd0 : 0 < d) (hd : d < c) (hp : p = -9223372036854775808 * c - d) (h : mode = 0 ∨ ((mode = 2 ∨ mode = 3) ∧ ¬ d ≤ c - d)) :
    cut64 (rnd p c mode) = 0 ∧ ok64 (rnd p c mode) = false := by
  have e := edge_near (mode := mode) hd0 hd hp
  have r : rup (-9223372036854775809) (c - d) c mode = false := by
    unfold rup
    rcases h with rfl | ⟨rfl | rfl, h⟩ <;> simp <;> omega
  rw [r] at e
  have e2 : ¬ I64 (rnd p c mode) := by rw [e]; unfold I64; simp
  exact ⟨cut64_f e2, ok64_f e2⟩
def fok (p c : Int) : Bool := decide (-9223372036854775808 * c ≤ p)
def flo (p c : Int) : Int := if fok p c = true then (if p / c ≤ 9223372036854775807 then p / c else 9223372036854775807) else 0
theorem flo_no {p c : Int} (h : ¬ -9223372036854775808 * c ≤ p) : flo p c = 0 ∧ fok p c = false := by
  have : fok p c = false := by unfold fok; simp; omega
  exact ⟨by unfold flo; rw [this]; rfl, this⟩
theorem flo_end {p c l : Int} (hc : 0 < c) (h : -9223372036854775808 * c ≤ p) (h1 : l ≤ 9223372036854775807) (h2 : l * c ≤ p) (h3 : l + 1 = 9223372036854775808 ∨ p < (l + 1) * c) : flo p c = l ∧ fok p c = true := by
  have e : fok p c = true := by unfold fok; simp; omega
  refine ⟨?_, e⟩
  unfold flo
  rw [e]
  have a1 : l ≤ p / c := Int.le_ediv_of_mul_le hc h2
  rcases h3 with h3 | h3
  · simp; omega
  · have a2 : p / c < l + 1 := Int.ediv_lt_of_lt_mul hc h3
    simp; omega
theorem i64_flo (p c : Int) (hc : 0 < c) : I64 (flo p c) := by
  unfold flo
  by_cases h : fok p c = true
  · rw [if_pos h]
    have h1 : -9223372036854775808 * c ≤ p := by unfold fok at h; simpa using h
    have : -9223372036854775808 ≤ p / c := Int.le_ediv_of_mul_le hc h1
    unfold I64; split <;> omega
  · rw [if_neg h]; exact i64_0
theorem rnd_same {p c mode : Int} (h : rup (p / c) (p % c) c mode = false) (hi : I64 (p / c)) : cut64 (rnd p c mode) = p / c ∧ ok64 (rnd p c mode) = true := by
  have e : rnd p c mode = p / c := by unfold rnd; rw [h]; simp
  rw [e]; exact ⟨cut64_t hi, ok64_t hi⟩
theorem rnd_more {p c mode : Int} (h : rup (p / c) (p % c) c mode = true) (hi : I64 (p / c)) (hn : p / c ≠ 9223372036854775807) : cut64 (rnd p c mode) = p / c + 1 ∧ ok64 (rnd p c mode) = true := by
  have e : rnd p c mode = p / c + 1 := by unfold rnd; rw [h]; simp
  have hi2 : I64 (p / c + 1) := by unfold I64 at *; omega
  rw [e]; exact ⟨cut64_t hi2, ok64_t hi2⟩
theorem rnd_last {p c mode : Int} (h : rup (p / c) (p % c) c mode = true) (hn : p / c = 9223372036854775807) : cut64 (rnd p c mode) = 0 ∧ ok64 (rnd p c mode) = false := by
  have e : rnd p c mode = p / c + 1 := by unfold rnd; rw [h]; simp
  have hi2 : ¬ I64 (p / c + 1) := by unfold I64; omega
  rw [e]; exact ⟨cut64_f hi2, ok64_f hi2⟩
theorem rnd_past {p c mode : Int} (hn : 9223372036854775807 < p / c) : cut64 (rnd p c mode) = 0 ∧ ok64 (rnd p c mode) = false := by
  have e := rnd_ge p c mode
  have hi2 : ¬ I64 (rnd p c mode) := by unfold I64; omega
  exact ⟨cut64_f hi2, ok64_f hi2⟩
/-- What the search finds, and what it leaves: a case each. -/
theorem flo_cases (p c : Int) (hc : 0 < c) :
    (fok p c = false ∧ flo p c = 0 ∧ p < -9223372036854775808 * c) ∨
    (fok p c = true ∧ flo p c = 9223372036854775807 ∧ 9223372036854775807 < p / c ∧ c ≤ p - 9223372036854775807 * c) ∨
    (fok p c = true ∧ flo p c = p / c ∧ I64 (p / c) ∧ p - p / c * c = p % c) := by
  by_cases h : -9223372036854775808 * c ≤ p
  · have e : fok p c = true := by unfold fok; simp; omega
    have a1 : -9223372036854775808 ≤ p / c := Int.le_ediv_of_mul_le hc h
    by_cases h2 : p / c ≤ 9223372036854775807
    · refine Or.inr (Or.inr ⟨e, by unfold flo; rw [e]; simp [h2], ⟨a1, h2⟩, ?_⟩)
      have := Int.mul_ediv_add_emod p c
      rw [Int.mul_comm] at this
      omega
    · refine Or.inr (Or.inl ⟨e, by unfold flo; rw [e]; simp [h2], by omega, ?_⟩)
      have a2 : 9223372036854775808 ≤ p / c := by omega
      have a3 : 9223372036854775808 * c ≤ p := (Int.le_ediv_iff_mul_le hc).1 a2
      omega
  · have hn := flo_no h
    exact Or.inl ⟨hn.2, hn.1, by omega⟩
/-- Whether what is left is rounded up, as the document's answer asks it. -/
theorem rup_asked {q r c mode : Int} (hm : goodm mode = true) :
    (rup q r c mode = false ∧ (mode = 0 ∨ (mode = 1 ∧ ¬ 0 < r) ∨ (mode = 2 ∧ ¬ c - r ≤ r) ∨ (mode = 3 ∧ r < c - r) ∨ (mode = 3 ∧ r = c - r ∧ q % 2 = 0))) ∨
    (rup q r c mode = true ∧ ((mode = 1 ∧ 0 < r) ∨ (mode = 2 ∧ c - r ≤ r) ∨ (mode = 3 ∧ c - r < r) ∨ (mode = 3 ∧ r = c - r ∧ q % 2 ≠ 0))) := by
  have hmode : mode = 0 ∨ mode = 1 ∨ mode = 2 ∨ mode = 3 := by have := (goodm_iff mode).1 hm; omega
  have he : q % 2 = 0 ∨ q % 2 ≠ 0 := by omega
  rcases hmode with rfl | rfl | rfl | rfl
  · exact Or.inl ⟨by unfold rup; simp, Or.inl rfl⟩
  · rw [rup1]
    by_cases h : 0 < r
    · exact Or.inr ⟨by simpa using h, Or.inl ⟨rfl, h⟩⟩
    · exact Or.inl ⟨by simpa using h, Or.inr (Or.inl ⟨rfl, h⟩)⟩
  · rw [rup2]
    by_cases h : c - r ≤ r
    · exact Or.inr ⟨by simp; omega, Or.inr (Or.inl ⟨rfl, h⟩)⟩
    · exact Or.inl ⟨by simp; omega, Or.inr (Or.inr (Or.inl ⟨rfl, h⟩))⟩
  · rw [rup3]
    by_cases h : r < c - r
    · exact Or.inl ⟨by rw [decide_eq_false (by omega), decide_eq_false (by omega)]; rfl, by omega⟩
    · by_cases h2 : c - r < r
      · exact Or.inr ⟨by rw [decide_eq_true (by omega)]; rfl, by omega⟩
      · rcases he with he | he
        · exact Or.inl ⟨by rw [decide_eq_false (by omega), decide_eq_true (by omega), decide_eq_false (by omega)]; rfl, by omega⟩
        · exact Or.inr ⟨by rw [decide_eq_false (by omega), decide_eq_true (by omega), decide_eq_true (by omega)]; rfl, by omega⟩
theorem tmod2 (n : Int) : (n.tmod 2 != 0) = decide (n % 2 ≠ 0) := by
  have h1 := Int.tmod_add_mul_tdiv n 2
  have h2 : (n.tmod 2).natAbs < 2 := by rw [Int.natAbs_tmod]; exact Nat.mod_lt _ (by omega)
  rw [Bool.eq_iff_iff]
  simp only [bne_iff_ne, ne_eq, decide_eq_true_eq]
  omega
end Go.Proofs.YtjgogpaedaffkaaGreat.P
/- What rounding keeps: plain arithmetic; no program is named here. -/
namespace Go.Proofs.YtjgogpaedaffkaaGreat.P
open Go.RowKit
theorem rup_pos {q r c mode : Int} (hc : 0 < c) (hm : goodm mode = true) (h : rup q r c mode = true) : 0 < r := by
  rcases rup_asked (q := q) (r := r) (c := c) hm with ⟨h1, _⟩ | ⟨_, h2⟩
  · rw [h1] at h; cases h
  · omega
theorem rnd_i64 {a c mode : Int} (ha : I64 a) (hc : 0 < c) (hm : goodm mode = true) : I64 (rnd a c mode) := by
  have e := Int.mul_ediv_add_emod a c
  rw [Int.mul_comm] at e
  have r0 := Int.emod_nonneg a (show c ≠ 0 by omega)
  have r1 := Int.emod_lt_of_pos a hc
  have l1 : -9223372036854775808 ≤ a / c := Int.le_ediv_of_mul_le hc (by unfold I64 at ha; omega)
  have l2 : a / c < 9223372036854775808 := Int.ediv_lt_of_lt_mul hc (by unfold I64 at ha; omega)
  unfold rnd
  split
  · rename_i h
    have hp := rup_pos hc hm h
    have l3 : a / c < 4611686018427387904 := Int.ediv_lt_of_lt_mul hc (by unfold I64 at ha; omega)
    unfold I64; omega
  · unfold I64; omega
theorem mdb_i64 {a c mode : Int} (ha : I64 a) (hc : 0 < c) (hm : goodm mode = true) : mdb a c mode = true ∧ mdn a c mode = rnd a c mode := by
  have h := rnd_i64 (mode := mode) ha hc hm
  exact ⟨by rw [mdb_good hc hm]; exact ok64_t h, by rw [mdn_good hc hm]; exact cut64_t h⟩
end Go.Proofs.YtjgogpaedaffkaaGreat.P
