/- DateOrder returns true, whatever its arguments are, and changes none of them, where the library's tables stand as the program's text lays them; the card ties that to the text. -/
import Derived.Test.YtagaoalafmdnbaaDoorRows
import Derived.Test.YtagaoalafmdnbaaDoorCards
import Derived.Test.YtagaoalafmdnbaaDoorTie
import Derived.Test.YtagaoalafmdnbaaDoorL03e
import Derived.Test.YtagaoalafmdnbaaDoorLaid
import Derived.WalkKit
import Derived.ProofKit
import Derived.OpenShut
import Derived.ShutString
import Derived.ChangeOld
import Derived.Below
import Derived.LaidMore
import Derived.Stop.Joined
import Derived.SevenTiedAt
import Derived.Lib.SmallJoins
namespace Go.Proofs.YtagaoalafmdnbaaDoor.dateOrder
open Go.ChangeShapes Go.WideShapes Go.ChangeAt Go.RowKit Go.Joins
open Go.ChangeMaps (open_string shut_string)
set_option linter.unusedVariables false
theorem door_met (os : Os) (args : Array Value) : laidMetH Tryd.prog Rows.dateOrderRow.laid ((World.doorLaid Tryd.prog 400 os).forCall (fun _ _ => 0) ⟨#[], args, []⟩).memory :=
  laidMetH_of_parts3 (fuel := 8) (laidMet_of_run' 8 (by kernel_rfl) (by kernel_rfl)) (by kernel_rfl) (by kernel_rfl)
set_option maxRecDepth 100000 in
theorem lifted (os : Os) (started : os.Started) (H : Type) (enc : TypeId × Value → H) :
    ReturnsInHanded {} Tryd.checked os 6 .any (fun w args => (Rows.dateOrderSpec.pre enc Tryd.prog Tryd.f6 [] false w args ∧ laidMetH Tryd.prog Rows.dateOrderRow.laid w) ∧ sizedMet enc Tryd.prog Tryd.f6 (OpenSpec.ofChange Rows.dateOrderSpec) false w args)
      (Rows.dateOrderSpec.post enc Tryd.prog Tryd.f6 false true false false) := by
  refine returnsInHanded_of_change_and (C := Tryd.checked) (X := fun w _ => laidMetH Tryd.prog Rows.dateOrderRow.laid w) (fun _ _ _ hh h => h.of_heap hh) Ld.own started (by kernel_rfl) Tryd.func6
    (ChangeSpec.witness_shaped (enc := enc) (C := Tryd.checked) (os := os) (X := fun w _ => laidMetH Tryd.prog Rows.dateOrderRow.laid w) false (World.doorLaid Tryd.prog 400 os) #[.agg #[.int .i64 0, .int .i64 0, .int .i64 0], .agg #[.int .i64 0, .int .i64 0, .int .i64 0]] 8 rfl (World.shaped_of_RefB (by kernel_rfl) (by kernel_rfl)) (by kernel_rfl) (by kernel_rfl) (by kernel_rfl) (door_met os _)) ?_
  intro W base args ds gs before hval0 hW _ _ hL _
  have hval : ∀ (j : Nat) t v, Tryd.f6.params[j]? = some t → args[j]? = some v → Value.okWide Tryd.prog W .any base t v := hval0
  have hW' := hW
  obtain ⟨p, q, hA0, hV, rfl, hfz, hnd⟩ := hW
  have hA : DataW.TrodAll enc Tryd.prog W 0 (fun _ => true) true Tryd.f6.params.toList args.toList ds p := hA0
  rw [Tryd.params6] at hA hval
  obtain ⟨v0, vs0, d0, ds0, p0, q0, hargs, rfl, rfl, h0, r0⟩ := trodAll_cons hA
  obtain ⟨v1, vs1, d1, ds1, p1, q1, rfl, rfl, rfl, h1, r1⟩ := trodAll_cons r0
  obtain ⟨rfl, rfl, rfl⟩ := trodAll_nil r1
  obtain rfl : args = #[v0, v1] := by cases args; simp_all
  obtain ⟨rfl, rfl⟩ := trodVars_none hV
  obtain ⟨x0, y0, z0, dx0, dy0, dz0, n0, rfl, rfl, rfl, tx0, ty0, tz0⟩ := open_agg3 Tryd.underlying23 (by kernel_rfl) (by kernel_rfl) (hval 0 23 v0 rfl rfl) h0
  obtain ⟨xi0, ex0, gx0, wx0⟩ := DataW.trod_int Tryd.underlying3 tx0
  obtain rfl : x0 = .int .i64 xi0 := by simpa using ex0
  subst gx0
  obtain ⟨yi0, ey0, gy0, wy0⟩ := DataW.trod_int Tryd.underlying3 ty0
  obtain rfl : y0 = .int .i64 yi0 := by simpa using ey0
  subst gy0
  obtain ⟨zi0, ez0, gz0, wz0⟩ := DataW.trod_int Tryd.underlying3 tz0
  obtain rfl : z0 = .int .i64 zi0 := by simpa using ez0
  subst gz0
  obtain ⟨x1, y1, z1, dx1, dy1, dz1, n1, rfl, rfl, rfl, tx1, ty1, tz1⟩ := open_agg3 Tryd.underlying23 (by kernel_rfl) (by kernel_rfl) (hval 1 23 v1 rfl rfl) h1
  obtain ⟨xi1, ex1, gx1, wx1⟩ := DataW.trod_int Tryd.underlying3 tx1
  obtain rfl : x1 = .int .i64 xi1 := by simpa using ex1
  subst gx1
  obtain ⟨yi1, ey1, gy1, wy1⟩ := DataW.trod_int Tryd.underlying3 ty1
  obtain rfl : y1 = .int .i64 yi1 := by simpa using ey1
  subst gy1
  obtain ⟨zi1, ez1, gz1, wz1⟩ := DataW.trod_int Tryd.underlying3 tz1
  obtain rfl : z1 = .int .i64 zi1 := by simpa using ez1
  subst gz1
  clear hA0 hval0
  simp only [List.append_nil] at hW'
  refine (L03.order_walk xi0 yi0 zi0 xi1 yi1 zi1 W (Ld.tab_of rfl (by kernel_rfl) hL)).mono fun e W' ⟨he, bel⟩ => ?_
  subst he
  exact ⟨_, rfl, _, _, _, [], [], [], hW', trodAll_mk1 (shut_bool Tryd.underlying4 _), (trodAll_cons_mk (shut_agg3 Tryd.underlying23 (by kernel_rfl) (by kernel_rfl) (shut_int Tryd.underlying3 wx0) (shut_int Tryd.underlying3 wy0) (shut_int Tryd.underlying3 wz0)) (trodAll_cons_mk (shut_agg3 Tryd.underlying23 (by kernel_rfl) (by kernel_rfl) (shut_int Tryd.underlying3 wx1) (shut_int Tryd.underlying3 wy1) (shut_int Tryd.underlying3 wz1)) trodAll_mk0)), rfl, bel.frame _, fun h => by cases h⟩
theorem over : Rows.dateOrderRow.holds Tryd.pinned (OpenSpec.ofChange Rows.dateOrderSpec) :=
  OpenClaim.holds_of_wide 6 Tryd.f6 rfl rfl rfl rfl rfl rfl rfl ⟨rfl, rfl, rfl, rfl, rfl⟩ rfl rfl rfl rfl rfl (by kernel_rfl) Tryd.func6 (by kernel_rfl)
    (of_decide_eq_true (by kernel_rfl)) (by unfold Func.isWrapper; first | (rw [if_pos (by decide +kernel)]; kernel_rfl) | (rw [if_neg (by decide +kernel)]; exact ⟨rfl, rfl⟩))
    (fun os started H enc _ => lifted os started H enc)
theorem proved : Rows.DateOrderCardSaid :=
  Claim7.holds_tied_plain_at .later [] Rows.dateOrderCard.laidKinds true Rows.dateOrderCard.stood.harness false
    over (fun _ h => by cases h) (by kernel_rfl) (fun _ h => by cases h) dateOrder_row_tie rfl ⟨rfl, rfl⟩ (by kernel_rfl) rfl
    (fun f fn hf hfn => by
      obtain rfl : f = 6 := Option.some.inj ((show Tryd.prog.funcNamed Rows.dateOrderRow.func = some 6 by kernel_rfl).symm.trans hf) |>.symm
      obtain rfl : fn = Tryd.f6 := (Option.some.inj (Tryd.func6.symm.trans hfn)).symm
      exact ⟨by kernel_rfl, fun j t ht => by
        rw [Tryd.params6] at ht
        have hm : t ∈ ([23, 23] : List TypeId) := by simpa using Array.mem_of_getElem? ht
        have hall : (([23, 23] : List TypeId).all fun u => !Tryd.prog.wantsStandIn u) = true := by kernel_rfl
        exact (show Tryd.prog.wantsStandIn t = false by simpa using List.all_eq_true.1 hall t hm)⟩)
    (by kernel_rfl)
end Go.Proofs.YtagaoalafmdnbaaDoor.dateOrder
