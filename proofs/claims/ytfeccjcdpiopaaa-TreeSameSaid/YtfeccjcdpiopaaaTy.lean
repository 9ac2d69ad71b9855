/- Values of structs and slices in memory, and the plain data that they hold: no function of the program is named here. -/
import Derived.Test.YtfeccjcdpiopaaaPure
import Derived.WalkSmall
import Derived.WalkKit
import Derived.Below
import Derived.Deep.Slices
import Derived.ChangeArms
import Derived.ChangeOld
import Derived.Laws.AppendOwn
import Derived.Laws.OwnMore
namespace Go.Proofs.Ytfeccjcdpiopaaa.Mm
open Go.RowKit Go.Deep Go.ChangeShapes Go.WideShapes P

/-- A type: how many cells a value of it has, and what data they hold in a world. -/
structure Ty (α : Type) where
  n : Nat
  lies : World → List Value → α → Prop
  len : ∀ {w cs x}, lies w cs x → cs.length = n
  keep : ∀ {w w' cs x}, lies w cs x → Below w.heap.size w w' → lies w' cs x
/-- Rows that lie from a place on. -/
def LieRow {α : Type} (T : Ty α) (w : World) (b o : Nat) (xs : List α) : Prop := b < w.heap.size ∧
  ∀ j x, xs[j]? = some x → ∃ cs, T.lies w cs x ∧ ∀ i v, cs[i]? = some v → w.cell? ⟨b, o + j * T.n + i, none⟩ = some v
/-- What a slice holds. -/
structure Row {α : Type} (T : Ty α) (w : World) (ao : Option Addr) (len cap : Nat) (xs : List α) : Prop where
  hlen : xs.length = len
  hcap : len ≤ cap
  hmax : cap ≤ 9223372036854775807
  lie : xs ≠ [] → ∃ b o, ao = some ⟨b, o, none⟩ ∧ LieRow T w b o xs
theorem LieRow.on {α : Type} {T : Ty α} {w w' : World} {b o : Nat} {xs : List α} (h : LieRow T w b o xs) (hb : Below w.heap.size w w') : LieRow T w' b o xs := by
  refine ⟨Nat.lt_of_lt_of_le h.1 hb.size, fun j x hj => ?_⟩
  obtain ⟨cs, h1, h2⟩ := h.2 j x hj
  refine ⟨cs, T.keep h1 hb, fun i v hi => ?_⟩
  rw [hb.cell h.1]
  exact h2 i v hi
theorem Row.on {α : Type} {T : Ty α} {w w' : World} {ao : Option Addr} {len cap : Nat} {xs : List α} (h : Row T w ao len cap xs) (hb : Below w.heap.size w w') : Row T w' ao len cap xs :=
  ⟨h.hlen, h.hcap, h.hmax, fun n => by
    obtain ⟨b, o, h1, h2⟩ := h.lie n
    exact ⟨b, o, h1, h2.on hb⟩⟩
theorem bel_on {w w1 w2 : World} (a : Below w.heap.size w w1) (b : Below w1.heap.size w1 w2) : Below w.heap.size w w2 := a.trans (b.mono a.size)
theorem bel_alloc (w : World) (x : Obj) : Below w.heap.size w (w.alloc x) := (Below.refl _ _).alloc (Nat.le_refl _) _
theorem Row.alloc {α : Type} {T : Ty α} {w : World} {ao : Option Addr} {len cap : Nat} {xs : List α} (h : Row T w ao len cap xs) (x : Obj) : Row T (w.alloc x) ao len cap xs := h.on (bel_alloc w x)
/-- One element's address and cells. -/
theorem Row.at {α : Type} {T : Ty α} {w : World} {ao : Option Addr} {len cap : Nat} {xs : List α} (h : Row T w ao len cap xs) {j : Nat} {x : α} (hj : xs[j]? = some x) :
    ∃ b o cs, ao = some ⟨b, o, none⟩ ∧ b < w.heap.size ∧ T.lies w cs x ∧ ∀ i v, cs[i]? = some v → w.cell? ⟨b, o + j * T.n + i, none⟩ = some v := by
  obtain ⟨b, o, h1, h2⟩ := h.lie (fun e => by rw [e] at hj; cases hj)
  obtain ⟨cs, h3, h4⟩ := h2.2 j x hj
  exact ⟨b, o, cs, h1, h2.1, h3, h4⟩
/-- A type whose cells are told by the data alone. -/
def leaf {α : Type} (n : Nat) (cells : α → List Value) (ok : α → Prop) (hn : ∀ x, (cells x).length = n) : Ty α where
  n := n
  lies := fun _ cs x => cs = cells x ∧ ok x
  len := fun h => by rw [h.1]; exact hn _
  keep := fun h _ => h
/-- A number, a truth, a text. -/
def tInt : Ty Int := leaf 1 (fun x => [.int .i64 x]) I64 (fun _ => rfl)
def tStr : Ty ByteArray := leaf 1 (fun s => [.string s]) (fun s => s.size ≤ 9223372036854775807) (fun _ => rfl)

/-- What is owned stays owned behind calls that leave old blocks alone. -/
theorem owns_on {w w1 : World} {base : Nat} {e : TypeId} {size n : Nat} {v : Value} {xs : List Value} (h : w.ownsRow base e size v n xs) (b : Below w.heap.size w w1) : w1.ownsRow base e size v n xs := by
  refine ⟨h.1, ?_⟩
  rcases h.2 with h2 | ⟨g, cap, cur, h1, h2, h3, h4⟩
  · exact .inl h2
  · have hg : g < w.heap.size := by
      rcases Nat.lt_or_ge g w.heap.size with k | k
      · exact k
      · rw [Array.getElem?_eq_none k] at h3; cases h3
    exact .inr ⟨g, cap, cur, h1, h2, by rw [b.block g hg]; exact h3, h4⟩
theorem flat_take {α β : Type} {l : List α} {f : α → List β} {j : Nat} {x : α} (h : l[j]? = some x) : (l.take (j + 1)).flatMap f = (l.take j).flatMap f ++ f x := by
  rw [List.take_add_one, h, List.flatMap_append]
  simp
theorem flat_whole {α β : Type} {l : List α} {f : α → List β} : (l.take l.length).flatMap f = l.flatMap f := by rw [List.take_length]
theorem flat_get {α β : Type} {cells : α → List β} {n : Nat} (hn : ∀ x, (cells x).length = n) : ∀ (xs : List α) (j : Nat) (x : α) (i : Nat) (u : β), xs[j]? = some x → (cells x)[i]? = some u → (xs.flatMap cells)[j * n + i]? = some u
  | [], j, _, _, _, hj, _ => by cases j <;> cases hj
  | a :: r, 0, x, i, u, hj, hi => by
    obtain rfl : a = x := by simpa using hj
    rw [List.flatMap_cons, Nat.zero_mul, Nat.zero_add, List.getElem?_append_left (List.getElem?_eq_some_iff.1 hi).1]
    exact hi
  | a :: r, j + 1, x, i, u, hj, hi => by
    rw [List.flatMap_cons, List.getElem?_append_right (by rw [hn, Nat.succ_mul]; omega), hn, show (j + 1) * n + i - n = j * n + i by rw [Nat.succ_mul]; omega]
    exact flat_get hn r j x i u (by simpa using hj) hi
/-- Cells of an owned row of a type whose cells are told by the data alone. -/
theorem row_own {α : Type} {n : Nat} {cells : α → List Value} {ok : α → Prop} {hn : ∀ x, (cells x).length = n} {w : World} {base : Nat} {e : TypeId} {v : Value} {xs : List α} (h : w.ownsRow base e n v xs.length (xs.flatMap cells)) (hok : ∀ x ∈ xs, ok x) :
    ∃ ao cap, v = .slice ao xs.length cap ∧ Row (leaf n cells ok hn) w ao xs.length cap xs := by
  rcases h.2 with ⟨h1, h2⟩ | ⟨g, cap, cur, h1, _, h3, h4, h5, _, _⟩
  · obtain rfl : xs = [] := List.eq_nil_of_length_eq_zero h2
    exact ⟨none, 0, h1, ⟨rfl, Nat.le_refl _, Nat.zero_le _, fun n => absurd rfl n⟩⟩
  · have hg : g < w.heap.size := by
      rcases Nat.lt_or_ge g w.heap.size with k | k
      · exact k
      · rw [Array.getElem?_eq_none k] at h3; cases h3
    subst h1
    refine ⟨some ⟨g, 0, none⟩, cap, rfl, ⟨rfl, h4, by unfold maxLen at h5; omega, fun _ => ⟨g, 0, rfl, hg, fun j x hj => ⟨cells x, ⟨rfl, hok x (List.mem_of_getElem? hj)⟩, fun i u hi => ?_⟩⟩⟩⟩
    have hjl := (List.getElem?_eq_some_iff.1 hj).1
    have hil : i < n := by rw [← hn x]; exact (List.getElem?_eq_some_iff.1 hi).1
    have hlt : j * n + i < xs.length * n := by
      have := Nat.mul_le_mul_right n (Nat.succ_le_of_lt hjl)
      rw [Nat.succ_mul] at this
      omega
    show w.cell? ⟨g, 0 + j * n + i, none⟩ = some u
    rw [Nat.zero_add, h.cellAt _ hlt]
    exact flat_get hn xs j x i u hj hi

/-! Down: from the row's reading. -/
section
variable {H : Type} {enc : TypeId × Value → H} {P : Program} {w : World} {base : Nat} {spare : Nat → Bool} {held : Bool}
theorem i64_wf {n : Int} (h : (Lit.int .i64 n).wf = true) : I64 n := by
  unfold I64
  simpa [Lit.wf, IntKind.min, IntKind.max, IntKind.signed, IntKind.bits] using h
theorem down_int {t : TypeId} {fuel : Nat} {cs : List Value} {x : DataW H × List MemPlace} (ht : P.underlying t = some (.int .i64)) (h : DataW.trod enc P w base spare held fuel t cs = some x) : ∃ n, cs = [.int .i64 n] ∧ I64 n := by
  obtain ⟨n, h1, _, h3⟩ := DataW.trod_int ht h
  exact ⟨n, h1, i64_wf h3⟩
theorem down_str {t : TypeId} {fuel : Nat} {cs : List Value} {x : DataW H × List MemPlace} (ht : P.underlying t = some .string) (h : DataW.trod enc P w base spare held fuel t cs = some x) : ∃ s : ByteArray, cs = [.string s] ∧ s.size ≤ 9223372036854775807 := by
  obtain ⟨s, h1, _, h3⟩ := DataW.trod_string ht h
  exact ⟨s, h1, h3⟩
theorem down_bool {t : TypeId} {fuel : Nat} {cs : List Value} {x : DataW H × List MemPlace} (ht : P.underlying t = some .bool) (h : DataW.trod enc P w base spare held fuel t cs = some x) : ∃ b, cs = [.bool b] := by
  obtain ⟨b, h1, _⟩ := DataW.trod_bool ht h
  exact ⟨b, h1⟩
/-- A struct's fields: each is read of its own cells. -/
theorem down_struct {t : TypeId} {fs : Array Field} {fuel : Nat} {cs : List Value} {x : DataW H × List MemPlace} (ht : P.underlying t = some (.struct fs)) (h : DataW.trod enc P w base spare held fuel t cs = some x) :
    cs.length = P.cellsOf t ∧ ∃ n, ∀ (i : Nat) (f : Field), fs[i]? = some f → ∃ y, DataW.trod enc P w base spare held n f.type ((cs.drop f.offset).take (P.cellsOf f.type)) = some y := by
  obtain ⟨xs, n, _, _, hl, hx, hf⟩ := DataW.trod_struct ht h
  refine ⟨hl, n, fun i f hi => ?_⟩
  have hlt : i < fs.size := (Array.getElem?_eq_some_iff.1 hi).1
  rw [hf i f hi, List.getElem?_eq_getElem (by omega)]
  exact ⟨_, rfl⟩
theorem piece {α : Type} {cs p r : List α} {a k : Nat} (h1 : (cs.drop a).take k = p) (h2 : cs.drop (a + k) = r) : cs.drop a = p ++ r := by
  rw [← h1, ← h2, ← List.drop_drop, List.take_append_drop]
theorem piece_end {α : Type} {cs : List α} {a : Nat} (h : cs.length = a) : cs.drop a = [] := List.drop_eq_nil_iff.2 (by omega)
theorem piece_all {α : Type} {cs p : List α} (h : cs.drop 0 = p) : cs = p := h
theorem cell_plain {w : World} {a : Addr} {v : Value} (h : w.cell? a = some v) : a.spot = none := by
  unfold World.cell? at h
  split at h
  · cases hs : a.spot with
    | none => rfl
    | some k => rw [hs] at h; simp at h
  · cases h
theorem add_plain (b o k : Nat) : (⟨b, o, none⟩ : Addr).add k = ⟨b, o + k, none⟩ := by
  unfold Addr.add
  by_cases h : k = 0
  · subst h; rfl
  · rw [if_neg h]
theorem down_row {α : Type} [Inhabited α] {T : Ty α} {t e : TypeId} {fuel : Nat} {cs : List Value} {x : DataW H × List MemPlace} (ht : P.underlying t = some (.slice e)) (hC : P.cellsOf e = T.n) (hpos : 0 < T.n)
    (ho : ∀ fuel cs x, DataW.trod enc P w base spare held fuel e cs = some x → ∃ y, T.lies w cs y) (h : DataW.trod enc P w base spare held fuel t cs = some x) :
    ∃ ao len cap xs, cs = [.slice ao len cap] ∧ Row T w ao len cap xs := by
  rcases open_slice ht h with ⟨h0, _⟩ | ⟨a, len, cap, m, n, D, Pl, hcs, hb, hl, hm, hmm, hx, hi⟩
  · exact ⟨none, 0, 0, [], h0, ⟨rfl, Nat.le_refl _, Nat.zero_le _, fun n => absurd rfl n⟩⟩
  · have hlm : len ≤ m := by rw [hmm]; split <;> omega
    obtain ⟨f, hf⟩ := choose_lt (n := len) (p := fun i y => ∃ cs', T.lies w cs' y ∧ ∀ k v, cs'[k]? = some v → w.cell? (a.add (i * T.n + k)) = some v) (fun i hil => by
      obtain ⟨cs', h1, h2⟩ := hi i (by omega)
      obtain ⟨y, hy⟩ := ho _ _ _ h2
      rw [hC] at h1
      obtain ⟨_, hlen, hat⟩ := World.cells?_some h1
      refine ⟨y, cs', hy, fun k v hk => ?_⟩
      have hkl : k < T.n := by rw [← hlen]; exact (List.getElem?_eq_some_iff.1 hk).1
      rw [← Go.Deep.add_add, hat k hkl]
      exact hk)
    refine ⟨some a, len, cap, (List.range len).map f, hcs, ⟨by simp, hl, hm, fun hne => ?_⟩⟩
    have h0 : 0 < len := by
      rcases Nat.eq_zero_or_pos len with k | k
      · subst k; simp at hne
      · exact k
    obtain ⟨cs0, l0, g0⟩ := hf 0 h0
    have hlen0 := T.len l0
    have hc0 : cs0[0]? = some (cs0[0]'(by omega)) := List.getElem?_eq_getElem (by omega)
    have hcell := g0 0 _ hc0
    have hsp : a.spot = none := by
      have : a.add (0 * T.n + 0) = a := by rw [Nat.zero_mul]; rfl
      rw [this] at hcell
      exact cell_plain hcell
    obtain ⟨b, o, s⟩ := a
    obtain rfl : s = none := hsp
    refine ⟨b, o, rfl, ?_, fun j y hj => ?_⟩
    · have := World.block_lt_of_cell? w _ hcell
      rw [add_plain] at this
      exact this
    · have hjl : j < len := by
        have := (List.getElem?_eq_some_iff.1 hj).1
        simpa using this
      rw [List.getElem?_map, List.getElem?_range hjl] at hj
      simp only [Option.map_some, Option.some.injEq] at hj
      obtain ⟨cs', g1, g2⟩ := hf j hjl
      rw [hj] at g1
      refine ⟨cs', g1, fun i v hi => ?_⟩
      have := g2 i v hi
      rw [add_plain] at this
      rw [Nat.add_assoc]
      exact this
end
end Go.Proofs.Ytfeccjcdpiopaaa.Mm
