/- What package date does: Parse, of every text. -/
import Derived.Test.YtcigholifpmdjaaDate4
namespace Go.Proofs.Ytcigholifpmdjaa.Dt
open Go.RowKit Go.Sort P

theorem part_of (s : ByteArray) (i j : Nat) : (s.extract i j).data.toList = (s.data.toList.drop i).take (j - i) := Lib.extract_data s i j
theorem nv_all {l : List UInt8} (h : l.all isD = true) : nv l = (val l : Int) := by unfold nv; rw [h]; rfl
theorem at_ten (s : ByteArray) (i : Nat) (h : i < s.size) (b : UInt8) : s.data.toList.getD i 0 = b ↔ (((s[i]'h).toNat : Int) = (b.toNat : Int)) := by
  have hl : i < s.data.toList.length := by simpa using h
  rw [List.getD_eq_getElem?_getD, List.getElem?_eq_getElem hl, at_byte s i h, Option.getD_some]
  constructor
  · rintro rfl; rfl
  · intro k; exact UInt8.toNat_inj.1 (by omega)
/-- Parse's answer. -/
theorem parse_any (s : ByteArray) (w : World) :
    Calls Try.prog 29 #[.string s] w fun e w' => e = (if reads s.data.toList = true then .returned (.tuple #[dv (yearOf s.data.toList) (monthOf s.data.toList) (dayOf s.data.toList), .bool true]) else .returned (.tuple #[dv 0 0 0, .bool false])) ∧ Below w.heap.size w w' := by
  by_cases hs : s.size = 10
  · have hl : s.data.toList.length = 10 := by simpa using hs
    by_cases h4 : ((s[4]'(by omega)).toNat : Int) = 45
    · by_cases h7 : ((s[7]'(by omega)).toNat : Int) = 45
      · have k4 := (at_ten s 4 (by omega) 45).2 h4
        have k7 := (at_ten s 7 (by omega) 45).2 h7
        have c0 := fun W => number_any (s.extract 0 4) W (by simp [hs])
        have c1 := fun W => number_any (s.extract 5 7) W (by simp [hs])
        have c2 := fun W => number_any (s.extract 8 10) W (by simp [hs])
        have e3 : ((s.data.toList.drop 8).take 2) = s.data.toList.drop 8 := List.take_of_length_le (by rw [List.length_drop]; omega)
        simp only [part_of, List.drop_zero, Nat.sub_zero, show 7 - 5 = 2 from rfl, e3] at c0 c1 c2
        have key : ((s.data.toList.take 4).all isD && ((s.data.toList.drop 5).take 2).all isD && (s.data.toList.drop 8).all isD && good (nv (s.data.toList.take 4)) (nv ((s.data.toList.drop 5).take 2)) (nv (s.data.toList.drop 8))) = reads s.data.toList := by
          unfold reads formed yearOf monthOf dayOf
          rw [hl, k4, k7]
          cases d0 : (s.data.toList.take 4).all isD
          · rfl
          · cases d1 : ((s.data.toList.drop 5).take 2).all isD
            · rfl
            · cases d2 : (s.data.toList.drop 8).all isD
              · rfl
              · rw [nv_all d0, nv_all d1, nv_all d2]; rfl
        refine parse_walk s _ _ _ _ _ _ _ _ _ _ w (fun W => parts_yes s W hs h4 h7) c0 c1 c2 (hid fun h => ?_) (hid fun h => ?_)
        · rw [key] at h
          rw [if_neg (by rw [h]; decide)]
        · have h' := h
          rw [key] at h'
          rw [if_pos h']
          simp only [Bool.and_eq_true] at h
          rw [nv_all h.1.1.1, nv_all h.1.1.2, nv_all h.1.2]
          rfl
      · have e : reads s.data.toList = false := by
          have : s.data.toList.getD 7 0 ≠ 45 := fun k => h7 ((at_ten s 7 (by omega) 45).1 k)
          unfold reads formed
          rw [decide_eq_false this]
          simp
        rw [if_neg (by rw [e]; decide)]
        exact parse_bad s w (fun W => parts_seven s W hs h4 h7)
    · have e : reads s.data.toList = false := by
        have : s.data.toList.getD 4 0 ≠ 45 := fun k => h4 ((at_ten s 4 (by omega) 45).1 k)
        unfold reads formed
        rw [decide_eq_false this]
        simp
      rw [if_neg (by rw [e]; decide)]
      exact parse_bad s w (fun W => parts_four s W hs h4)
  · have e : reads s.data.toList = false := by
      have : s.data.toList.length ≠ 10 := by simpa using hs
      unfold reads formed
      rw [decide_eq_false this]
      rfl
    rw [if_neg (by rw [e]; decide)]
    exact parse_bad s w (fun W => parts_len s W hs)
end Go.Proofs.Ytcigholifpmdjaa.Dt
