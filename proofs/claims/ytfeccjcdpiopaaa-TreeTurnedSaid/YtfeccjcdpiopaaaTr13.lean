/- Package tree, walked: the sort of names. -/
import Derived.Test.YtfeccjcdpiopaaaTr12
import Derived.Test.YtfeccjcdpiopaaaTr7
import Derived.Test.YtfeccjcdpiopaaaLays
import Derived.Sort.OwnSorted
import Derived.Sort.Walk0
namespace Go.Proofs.Ytfeccjcdpiopaaa.Te
open Go.RowKit Go.Sort P Mm R6 Tl L06

def strC (s : ByteArray) : List Value := [.string s]
theorem strC_map : ∀ l : List ByteArray, l.flatMap strC = (l.map fun s => s.data.toList).map encStr
  | [] => rfl
  | s :: r => by
    rw [List.flatMap_cons, strC_map r]
    rfl
theorem strC_back : ∀ ts : List (List UInt8), ts.map encStr = (ts.map fun b => (⟨b.toArray⟩ : ByteArray)).flatMap strC
  | [] => rfl
  | s :: r => by
    rw [List.map_cons, strC_back r]
    rfl
theorem mk_back : ∀ l : List ByteArray, (l.map fun s => s.data.toList).map (fun b => (⟨b.toArray⟩ : ByteArray)) = l
  | [] => rfl
  | s :: r => by
    rw [List.map_cons, List.map_cons, mk_back r]
theorem rising_sorted (ss : List (List UInt8)) : Rising ((ss.mergeSort fun x y => decide (x ≤ y)).map fun b => (⟨b.toArray⟩ : ByteArray)) := by
  intro i a b ha hb
  have tr : ∀ a b c : List UInt8, decide (a ≤ b) = true → decide (b ≤ c) = true → decide (a ≤ c) = true := fun a b c h1 h2 => by simp only [decide_eq_true_eq] at *; exact List.le_trans h1 h2
  have tt : ∀ a b : List UInt8, (decide (a ≤ b) || decide (b ≤ a)) = true := fun a b => by simp only [Bool.or_eq_true, decide_eq_true_eq]; exact List.le_total a b
  have hp := List.pairwise_mergeSort tr tt ss
  rw [List.getElem?_map] at ha hb
  obtain ⟨x, hx, rfl⟩ := Option.map_eq_some_iff.1 ha
  obtain ⟨y, hy, rfl⟩ := Option.map_eq_some_iff.1 hb
  obtain ⟨l1, e1⟩ := List.getElem?_eq_some_iff.1 hx
  obtain ⟨l2, e2⟩ := List.getElem?_eq_some_iff.1 hy
  have := (List.pairwise_iff_getElem.1 hp) i (i + 1) l1 l2 (by omega)
  rw [e1, e2] at this
  rw [ByteArray.toList_eq, ByteArray.toList_eq, bytesLess_eq]
  simp only [decide_eq_true_eq] at this
  simpa using this
theorem sort_any (g cap : Nat) (l : List ByteArray) (base : Nat) (w : World) (h : w.ownsRow base 9 1 (.slice (some ⟨g, 0, none⟩) l.length cap) l.length (l.flatMap strC)) (hl : l.length ≤ 100000) :
    Calls Try.prog 36 #[.slice (some ⟨g, 0, none⟩) l.length cap] w fun e w' => ∃ l' : List ByteArray, e = .returned (.tuple #[]) ∧ l'.length = l.length ∧ l'.Perm l ∧ Rising l' ∧
      w'.ownsRow base 9 1 (.slice (some ⟨g, 0, none⟩) l.length cap) l.length (l'.flatMap strC) ∧ w.grownBy w' (some g) := by
  obtain ⟨ss, hss⟩ : ∃ ss, ss = l.map fun s => s.data.toList := ⟨_, rfl⟩
  have hlen : ss.length = l.length := by rw [hss, List.length_map]
  rw [strC_map, ← hss, ← hlen] at h
  rcases h.2 with ⟨h0, _⟩ | ⟨g', cap', cur, hv, hbase, hb, h1, h2, h3, h4⟩
  · cases h0
  simp only [Value.slice.injEq, Option.some.injEq, Addr.mk.injEq, and_true, true_and] at hv
  obtain ⟨rfl, rfl⟩ := hv
  have hH : Holds encStr w g 0 ss.toArray := holds_of_block hb (by simpa using h4)
  have hc := Any.slices_Sort_string Try.lays190 g 0 cap ss w hH (Array.getElem?_eq_some_iff.1 hb).1 (by omega)
  rw [← hlen]
  refine hc.mono ?_
  rintro e w' ⟨rfl, n, os, rfl⟩
  refine ⟨_, rfl, ?_, ?_, rising_sorted ss, ?_, grownBy_sorted _⟩
  · rw [List.length_map, List.length_mergeSort]
  · have := (List.mergeSort_perm ss fun x y => decide (x ≤ y)).map fun b => (⟨b.toArray⟩ : ByteArray)
    rw [hss] at this ⊢
    rwa [mk_back] at this
  · rw [← strC_back]
    exact ownsRow_sorted (by simp) hbase hb h1 h2 h3
end Go.Proofs.Ytfeccjcdpiopaaa.Te
