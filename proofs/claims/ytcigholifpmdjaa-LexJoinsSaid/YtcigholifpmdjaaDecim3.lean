/- What package decimal does: Of, Parse. -/
import Derived.Test.YtcigholifpmdjaaDecim2
namespace Go.Proofs.Ytcigholifpmdjaa.Dc
open Go.RowKit Go.Sort P Ex

/-- What Of answers, by what the cut answers. -/
def fc (a b : List UInt8) (found : Bool) : Int := if pl a then (if found then (if b.all isDg && !b.isEmpty then 2 else 0) else 1) else 0
theorem fm_fc (l : List UInt8) : (fm l : Int) = fc (Lib.cut l [46]).1 (Lib.cut l [46]).2.1 (Lib.cut l [46]).2.2 := by
  rcases cut_one l 46 with ⟨h, e⟩ | ⟨a, b, h, h2, e⟩
  · rw [e, fm_cut_no h]
    unfold fc
    cases pl l <;> rfl
  · rw [e, h, fm_cut_yes h2]
    unfold fc
    cases pl a <;> cases (b.all isDg && !b.isEmpty) <;> rfl
theorem mk_list (l : List UInt8) : (⟨l.toArray⟩ : ByteArray).data.toList = l := by simp
theorem of_mx (s : ByteArray) (w : World) (k : Mx w) (hs : s.size ≤ 1000000) :
    Calls Try.prog 17 #[.string s] w fun e w' => e = .returned (.int .i64 (fm s.data.toList)) ∧ Below w.heap.size w w' := by
  have cC := cut_mx s w k hs
  rw [fm_fc]
  generalize (Lib.cut s.data.toList [46]).1 = a at *
  generalize (Lib.cut s.data.toList [46]).2.1 = b at *
  generalize (Lib.cut s.data.toList [46]).2.2 = f at *
  have cP := fun W => plain_any ⟨a.toArray⟩ W
  have cD := fun W => digits_any ⟨b.toArray⟩ W
  rw [mk_list] at cP cD
  unfold fc
  generalize pl a = p at *
  generalize (b.all isDg && !b.isEmpty) = d at *
  rcases Bool.eq_false_or_eq_true p with rfl | rfl
  · rcases Bool.eq_false_or_eq_true f with rfl | rfl
    · rcases Bool.eq_false_or_eq_true d with rfl | rfl
      all_goals
        go_enter Try.func17, Try.ntmps17
        go_wp2_with (first
          | (go_at_call 26; refine cC.mono ?_; rintro e w1 ⟨rfl, b1⟩)
          | (go_at_call 27; refine (cP _).mono ?_; rintro e w2 ⟨rfl, b2⟩; have B2 := b1.trans (b2.mono b1.size))
          | (go_at_call 28; refine (cD _).mono ?_; rintro e w3 ⟨rfl, b3⟩; have B3 := B2.trans (b3.mono B2.size)))
        go_ret
        exact ⟨rfl, B3⟩
    · go_enter Try.func17, Try.ntmps17
      go_wp2_with (first
        | (go_at_call 26; refine cC.mono ?_; rintro e w1 ⟨rfl, b1⟩)
        | (go_at_call 27; refine (cP _).mono ?_; rintro e w2 ⟨rfl, b2⟩; have B2 := b1.trans (b2.mono b1.size)))
      go_ret
      exact ⟨rfl, B2⟩
  · go_enter Try.func17, Try.ntmps17
    go_wp2_with (first
      | (go_at_call 26; refine cC.mono ?_; rintro e w1 ⟨rfl, b1⟩)
      | (go_at_call 27; refine (cP _).mono ?_; rintro e w2 ⟨rfl, b2⟩; have B2 := b1.trans (b2.mono b1.size)))
    go_ret
    exact ⟨rfl, B2⟩
theorem of_any (s : ByteArray) (w : World) (k : K w) (hs : s.size ≤ 1000000) :
    Calls Try.prog 17 #[.string s] w fun e w' => e = .returned (.int .i64 (fm s.data.toList)) ∧ Below w.heap.size w w' := of_mx s w k.1 hs
/-- What a number's cut tells of what it comes to. -/
theorem cut_tells {l : List UInt8} (h : fm l ≠ 0) : ∃ a b f, Lib.cut l [46] = (a, b, f) ∧ (a ++ b).all isDg = true ∧ stV (a ++ b) = stV l ∧ max (stB l) 0 = b.length ∧ a.length + b.length ≤ l.length := by
  rcases cut_one l 46 with ⟨h1, e⟩ | ⟨a, b, h1, h2, e⟩
  · rw [fm_cut_no h1] at h
    have hp : pl l = true := by
      cases k : pl l
      · rw [k] at h; exact absurd rfl h
      · rfl
    obtain ⟨x, _, _⟩ := pl_oddHead hp
    refine ⟨l, [], false, e, by rwa [List.append_nil], by rw [List.append_nil], ?_, by simp⟩
    rw [stB_plain x]; rfl
  · rw [h1, fm_cut_yes h2] at h
    have hp : (pl a && (b.all isDg && !b.isEmpty)) = true := by
      cases k : (pl a && (b.all isDg && !b.isEmpty))
      · rw [k] at h; exact absurd rfl h
      · rfl
    rw [Bool.and_eq_true, Bool.and_eq_true] at hp
    obtain ⟨x, _, _⟩ := pl_oddHead hp.1
    refine ⟨a, b, true, e, by rw [List.all_append, x, hp.2.1]; rfl, by rw [h1, stV_cut hp.2.1], ?_, by rw [h1]; simp⟩
    rw [h1, stB_cut hp.2.1]; omega
theorem pw_bad {l : List UInt8} {p : Int} (most : Int) (h : pBad l p = true) : pN l p most = 0 ∧ pW l p most = 1 := by
  unfold pN pW; rw [h]; exact ⟨rfl, rfl⟩
theorem pw_great {l : List UInt8} {p most : Int} (h : pBad l p = false) (g : pGreat l p most = true) : pN l p most = 0 ∧ pW l p most = 2 := by
  unfold pN pW; rw [h, g]; exact ⟨rfl, rfl⟩
theorem pw_fine {l : List UInt8} {p most : Int} (h : pBad l p = false) (g : pGreat l p most = false) : pN l p most = pV l p ∧ pW l p most = 0 := by
  unfold pN pW; rw [h, g]; exact ⟨rfl, rfl⟩
theorem big_pow {v : Int} {j : Nat} (hv0 : 0 ≤ v) (h : ¬ I64 v) : ¬ I64 (v * 10 ^ j) := by
  have hp : (0 : Int) < 10 ^ j := Int.pow_pos (by decide)
  obtain ⟨y, hy⟩ : ∃ y : Int, y = 10 ^ j := ⟨_, rfl⟩
  rw [← hy] at hp ⊢
  have h5 : v * 1 ≤ v * y := Int.mul_le_mul_of_nonneg_left (by omega) hv0
  obtain ⟨z, hz⟩ : ∃ z : Int, z = v * y := ⟨_, rfl⟩
  rw [← hz] at h5 ⊢
  clear hz hy
  unfold I64 at *
  omega
end Go.Proofs.Ytcigholifpmdjaa.Dc
