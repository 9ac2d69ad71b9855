/- What package lex does: of what kind letters are. -/
import Derived.Test.YtcigholifpmdjaaLex2
import Derived.Test.YtcigholifpmdjaaDecim3
import Derived.Test.YtcigholifpmdjaaDate5
namespace Go.Proofs.Ytcigholifpmdjaa.Le
open Go.RowKit P R4 R5

theorem day_any (s : ByteArray) (w : World) : Calls Try.prog 18 #[.string s] w fun e w' => e = .returned (.bool (reads s.data.toList)) ∧ Below w.heap.size w w' := by
  have cP := fun W => Dt.parse_any s W
  unfold dv at cP
  cases hr : reads s.data.toList
  · simp only [hr, Bool.false_eq_true, if_false] at cP
    go_enter Try.func18, Try.ntmps18
    go_wp2_with (go_at_call 29; refine (cP _).mono ?_; rintro e w1 ⟨rfl, b1⟩)
    go_ret
    first
      | exact ⟨rfl, b1⟩
      | exact ⟨rfl, b1.alloc b1.size _⟩
  · simp only [hr, if_true] at cP
    generalize yearOf s.data.toList = Y at *
    generalize monthOf s.data.toList = M at *
    generalize dayOf s.data.toList = D at *
    go_enter Try.func18, Try.ntmps18
    go_wp2_with (go_at_call 29; refine (cP _).mono ?_; rintro e w1 ⟨rfl, b1⟩)
    go_ret
    first
      | exact ⟨rfl, b1⟩
      | exact ⟨rfl, b1.alloc b1.size _⟩
set_option maxHeartbeats 1000000 in
theorem of_any (s : ByteArray) (w : World) (k : Dc.Mx w) (hs : s.size ≤ 1000000) : Calls Try.prog 9 #[.string s] w fun e w' => e = .returned (.int .i64 (kd s.data.toList)) ∧ Below w.heap.size w w' := by
  have cS := fun W => sign_any s W
  have cW := fun W => word_any s W
  have cN := fun W => name_any s W hs
  have cF := Dc.of_mx s w k hs
  have cD := fun W => day_any s W
  rw [kd_kw]
  generalize sgn s.data.toList = a at *
  generalize words.contains s.data.toList = b at *
  generalize nm s.data.toList = c at *
  generalize reads s.data.toList = d at *
  generalize fm s.data.toList = f at *
  obtain ⟨F, hF⟩ : ∃ F : Int, F = (f : Int) := ⟨_, rfl⟩
  rw [← hF] at cF
  cases a
  · cases b
    · cases c
      · by_cases hf : f = 0
        · subst hf
          obtain rfl : F = 0 := hF
          cases d
          all_goals
            go_enter Try.func9, Try.ntmps9
            go_wp2_with (first
              | (go_at_call 14; refine (cS _).mono ?_; rintro e w' ⟨rfl, h'⟩; rw [h'])
              | (go_at_call 15; refine (cW _).mono ?_; rintro e w' ⟨rfl, h'⟩; rw [h'])
              | (go_at_call 16; refine (cN _).mono ?_; rintro e w' ⟨rfl, h'⟩; rw [h'])
              | (go_at_call 17; refine cF.mono ?_; rintro e w1 ⟨rfl, b1⟩)
              | (go_at_call 18; go_loud (refine (cD _).mono ?_; rintro e w2 ⟨rfl, b2⟩; have B2 := b1.trans (b2.mono b1.size))))
            go_ret
            exact ⟨rfl, B2⟩
        · have hb : (F != 0) = true := bne_iff_ne.2 (by omega)
          have hk : Hid (kw false false false f d = 3) := hid (by unfold kw; rw [if_neg (by decide), if_neg (by decide), if_neg (by decide), if_pos hf])
          clear hf hF
          go_enter Try.func9, Try.ntmps9
          go_wp2_with (first
            | (go_at_call 14; refine (cS _).mono ?_; rintro e w' ⟨rfl, h'⟩; rw [h'])
            | (go_at_call 15; refine (cW _).mono ?_; rintro e w' ⟨rfl, h'⟩; rw [h'])
            | (go_at_call 16; refine (cN _).mono ?_; rintro e w' ⟨rfl, h'⟩; rw [h'])
            | (go_at_call 17; refine cF.mono ?_; rintro e w1 ⟨rfl, b1⟩))
          go_ret
          exact ⟨ret_i (by rw [hk.out]; rfl), b1⟩
      · clear cF cD
        go_enter Try.func9, Try.ntmps9
        go_wp2_with (first
          | (go_at_call 14; refine (cS _).mono ?_; rintro e w' ⟨rfl, h'⟩; rw [h'])
          | (go_at_call 15; refine (cW _).mono ?_; rintro e w' ⟨rfl, h'⟩; rw [h'])
          | (go_at_call 16; refine (cN _).mono ?_; rintro e w' ⟨rfl, h'⟩; rw [h']))
        go_ret
        exact ⟨rfl, Below.refl _ _⟩
    · clear cF cD cN
      go_enter Try.func9, Try.ntmps9
      go_wp2_with (first
        | (go_at_call 14; refine (cS _).mono ?_; rintro e w' ⟨rfl, h'⟩; rw [h'])
        | (go_at_call 15; refine (cW _).mono ?_; rintro e w' ⟨rfl, h'⟩; rw [h']))
      go_ret
      exact ⟨rfl, Below.refl _ _⟩
  · clear cF cD cN cW
    go_enter Try.func9, Try.ntmps9
    go_wp2_with (go_at_call 14; refine (cS _).mono ?_; rintro e w' ⟨rfl, h'⟩; rw [h'])
    go_ret
    exact ⟨rfl, Below.refl _ _⟩
end Go.Proofs.Ytcigholifpmdjaa.Le
