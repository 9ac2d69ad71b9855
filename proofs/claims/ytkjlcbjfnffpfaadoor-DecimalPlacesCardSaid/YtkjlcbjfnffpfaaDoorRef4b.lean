/- What the document's answers for layer 4 (poundageref04) come to: more. -/
import Derived.Test.YtkjlcbjfnffpfaaDoorRef4
import Derived.Test.YtkjlcbjfnffpfaaDoorRef1b
namespace Go.Proofs.YtkjlcbjfnffpfaaDoor.R4
open Go.RowKit P Ex

theorem more_any (n d : Int) (ok : Bool) (w : World) (hn : I64 n) (hd : I64 d) :
    Calls Tryd.prog 18 #[.int .i64 n, .int .i64 d, .bool ok] w fun e w' => e = .returned (.tuple #[.int .i64 (if ok && ok64 (n * 10 + d) then n * 10 + d else 0), .bool (ok && ok64 (n * 10 + d))]) ∧ Below w.heap.size w w' := by
  have cM := fun W => R1.mul_any n 10 W hn (by unfold I64; omega)
  have cO := fun W => R1.of_any d W hd
  have h1 : (n * 10).natAbs < two127 := by unfold I64 at hn; unfold two127; omega
  have h2 : d.natAbs < two127 := by unfold I64 at hd; unfold two127; omega
  have cA := fun W => R1.add_any (n * 10) d W h1 h2
  have cI := fun W => R1.int_any (n * 10 + d) W
  obtain ⟨V, hV⟩ : ∃ V, V = n * 10 + d := ⟨_, rfl⟩
  rw [← hV]
  simp only [← hV] at cA cI
  obtain ⟨A, hA⟩ : ∃ A, A = R1.W (n * 10) := ⟨_, rfl⟩
  obtain ⟨D, hD⟩ : ∃ D, D = R1.W d := ⟨_, rfl⟩
  obtain ⟨S, hS⟩ : ∃ S, S = R1.W V := ⟨_, rfl⟩
  simp only [← hA] at cM cA
  simp only [← hD] at cO cA
  simp only [← hS] at cA cI
  obtain ⟨K, hK⟩ : ∃ K, K = ok64 V := ⟨_, rfl⟩
  have hc : cut64 V = if K = true then V else 0 := by unfold cut64; rw [hK]
  rw [← hK]
  simp only [← hK, hc] at cI
  clear hn hd h1 h2 hV hA hD hS hK hc
  cases ok <;> cases K
  all_goals
    go_enter Tryd.func18, Tryd.ntmps18
    go_wp2_with (first
      | (go_at_call 29; refine (cM _).mono ?_; rintro e w1 ⟨rfl, b1⟩)
      | (go_at_call 30; refine (cO _).mono ?_; rintro e w2 ⟨rfl, b2⟩; have B2 := b1.trans (b2.mono b1.size))
      | (go_at_call 28; refine (cA _).mono ?_; rintro e w3 ⟨rfl, b3⟩; have B3 := B2.trans (b3.mono B2.size))
      | (go_at_call 27; refine (cI _).mono ?_; rintro e w4 ⟨rfl, b4⟩; have B4 := B3.trans (b4.mono B3.size)))
    go_ret2
    exact ⟨Ex.ret_2 rfl rfl, B4⟩
end Go.Proofs.YtkjlcbjfnffpfaaDoor.R4
