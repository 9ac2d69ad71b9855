/- What the document's answers for layer 7 (poundageref07) come to: Parse, of every text. -/
import Derived.Test.YtabcoahenlaehaaGreatDoorJRef7g
import Derived.Test.YtabcoahenlaehaaGreatDoorJParI
namespace Go.Proofs.YtabcoahenlaehaaGreatDoor.R7
open Go.RowKit Go.Sort P Tl Mm Md

theorem ref_any (l : ByteArray) (w : World) : Calls Tryz.prog 6 #[.string l] w (PsQ w (parsed l.data.toList)) := by
  by_cases h : (lexed l.data.toList).2.1 = 0
  · have e : parsed l.data.toList = planS (lexed l.data.toList).1 := by unfold parsed; simp only; rw [if_pos h]
    rw [e]
    exact parse_good l w (lexed l.data.toList).1 (lexed l.data.toList).2.2.1 (lexed l.data.toList).2.2.2 (by rw [← h]) (lexed_fine h)
  · have e : parsed l.data.toList = (planZ, ((lexed l.data.toList).2.1 : Int), ((lexed l.data.toList).2.2.1 : Int), ((lexed l.data.toList).2.2.2 : Int)) := by unfold parsed; simp only; rw [if_neg h]
    rw [e]
    exact parse_bad l w _ _ _ _ rfl h
/-- What Parse answers: a plan that lies, and a fault. -/
theorem ref_lies (l : ByteArray) (w : World) : Calls Tryz.prog 6 #[.string l] w fun e w' => ∃ ma mc fa fc ca cc, e = .returned (.tuple #[.agg (planC (parsed l.data.toList).1 ma mc fa fc ca cc).toArray, .int .i64 (parsed l.data.toList).2.1, .int .i64 (parsed l.data.toList).2.2.1, .int .i64 (parsed l.data.toList).2.2.2]) ∧
    PlanLies w' (planC (parsed l.data.toList).1 ma mc fa fc ca cc) (parsed l.data.toList).1 ma mc fa fc ca cc ∧ Below w.heap.size w w' :=
  (ref_any l w).mono fun _ _ ⟨ma, mc, fa, fc, ca, cc, _, h1, h2, h3, h4⟩ => ⟨ma, mc, fa, fc, ca, cc, h1, lies_of h2 (parsed_fits _) h3.own, h4⟩
end Go.Proofs.YtabcoahenlaehaaGreatDoor.R7
/- The plan that a text tells isn't great: no more things in it than tokens. Pure: no program is named here. -/
namespace Go.Proofs.YtabcoahenlaehaaGreatDoor.P
open Go.RowKit Mm R6

theorem tiers_cnt (ts : List Tok) : ∀ (n : Nat) (s : St) (acc : List Tier), (tiersS ts n s acc).1.length ≤ n + acc.length
  | 0, s, acc => by show acc.length ≤ _; omega
  | n + 1, s, acc => by
    unfold tiersS
    split
    · have := tiers_cnt ts n (tierS ts s.next).2 (acc ++ [(tierS ts s.next).1])
      simp only [List.length_append, List.length_singleton] at this
      omega
    · show acc.length ≤ _; omega
theorem adjs_cnt (ts : List Tok) : ∀ (n : Nat) (s : St) (acc : List Adj), (adjsS ts n s acc).1.length ≤ n + acc.length
  | 0, s, acc => by show acc.length ≤ _; omega
  | n + 1, s, acc => by
    unfold adjsS
    simp only
    split
    · show acc.length ≤ _; omega
    · have := adjs_cnt ts n (adjS ts (oneS ts s adjWords).2 (1 + (oneS ts s adjWords).1)).2 (acc ++ [(adjS ts (oneS ts s adjWords).2 (1 + (oneS ts s adjWords).1)).1])
      simp only [List.length_append, List.length_singleton] at this
      omega
theorem charge_cnt (ts : List Tok) (s : St) (l c : Int) : (chargeS ts s l c).1.tiers.length ≤ ts.length + 1 ∧ (chargeS ts s l c).1.adjusts.length ≤ ts.length := by
  refine ⟨?_, ?_⟩
  · show (_ ++ [_]).length ≤ _
    rw [List.length_append]
    have := tiers_cnt ts ts.length (wnt ts (kindS ts (optS ts (optS ts (wnt ts (winS ts (tkn ts s 1).2).2 sOpen) wAllowance 0).2 wBlock 1).2).2 sOpen) []
    simp only [List.length_nil] at this
    show _ + 1 ≤ _
    exact Nat.add_le_add_right this 1
  · exact adjs_cnt ts ts.length _ []
/-- What is counted as the items are read. -/
structure Few (ts : List Tok) (i : Nat) (p : Plan) : Prop where
  sum : p.meters.length + p.fees.length + p.charges.length ≤ i
  parts : ∀ c ∈ p.charges, c.tiers.length ≤ ts.length + 1 ∧ c.adjusts.length ≤ ts.length
theorem item_few {ts : List Tok} {s : St} {p : Plan} (h : Few ts s.i p) (ho : goesOn ts s = true) : Few ts (itemS ts s p).2.i (itemS ts s p).1 := by
  rcases item_next ts s p ho with k | ⟨k1, _⟩
  · refine ⟨Nat.le_trans ?_ k, ?_⟩
    · have := h.sum
      unfold itemS
      simp only
      repeat' split
      all_goals simp only [List.length_append, List.length_singleton]; omega
    · unfold itemS
      simp only
      repeat' split
      · exact h.parts
      · exact h.parts
      · intro c hc
        rcases List.mem_append.1 hc with k | k
        · exact h.parts c k
        · obtain rfl := List.mem_singleton.1 k
          exact charge_cnt ts _ _ _
      · exact h.parts
  · rw [k1, wrg_i]
    exact h
theorem items_few {ts : List Tok} : ∀ (n : Nat) (s : St) (p : Plan), Few ts s.i p → Few ts (itemsS ts n s p).2.i (itemsS ts n s p).1
  | 0, _, _, h => h
  | n + 1, s, p, h => by
    unfold itemsS
    split
    · rename_i ho
      exact items_few n _ _ (item_few h ho)
    · exact h
theorem planZ_small : Small planZ := ⟨by decide, by decide, by decide, fun c hc => by cases hc⟩
theorem plan_small {ts : List Tok} (hf : Fine ts) : Small (planS ts).1 := by
  have ok : Ok ts st0 := ⟨hf.toks, hf.toks.pos⟩
  have fw := items_few (ts := ts) ts.length (headS ts st0).2 (headS ts st0).1 ⟨Nat.zero_le _, fun c hc => by cases hc⟩
  have lt := (Ok.itemsS ts.length _ (headS ts st0).1 ok.headS).lt
  have cnt := hf.cnt
  unfold planS
  simp only
  split
  · show Small (itemsS ts ts.length (headS ts st0).2 (headS ts st0).1).1
    exact ⟨by have := fw.sum; omega, by have := fw.sum; omega, by have := fw.sum; omega, fun c hc => by have := fw.parts c hc; omega⟩
  · exact planZ_small
theorem parsed_small (l : List UInt8) : Small (parsed l).1 := by
  unfold parsed
  simp only
  split
  · rename_i h
    exact plan_small (lexed_fine h)
  · exact planZ_small
end Go.Proofs.YtabcoahenlaehaaGreatDoor.P
