/- A plan's text as lines: each ends with its sign, behind as many tabs as braces are open. Pure: no program is named here. -/
import Derived.Test.YteelbdcgdkpioaaGreatDoorJShR
import Derived.Test.YteelbdcgdkpioaaGreatDoorJDate4
namespace Go.Proofs.YteelbdcgdkpioaaGreatDoor.P
open Go.RowKit Mm R6

def tch (c : UInt8) : Bool := isLt c || c == 32 || c == 59 || c == 123 || c == 125
/-- Lines, and how many braces are open behind one. -/
abbrev Lns := List (Nat × List UInt8)
def stepL (d : Nat) (x : Nat × List UInt8) : Option Nat :=
  if x.2.getLastD 0 = 125 then (if x.1 + 1 = d then some x.1 else none)
  else if x.1 = d then (if x.2.getLastD 0 = 123 then some (d + 1) else if x.2.getLastD 0 = 59 then some d else none) else none
def runsL : Nat → Lns → Option Nat
  | d, [] => some d
  | d, x :: r => match stepL d x with | some e => runsL e r | none => none
def txtL (ls : Lns) : List UInt8 := ls.flatMap fun x => ln x.1 x.2
def LnOk (x : Nat × List UInt8) : Prop := x.2 ≠ [] ∧ x.2.all tch = true
structure Blk (d : Nat) (t : List UInt8) : Prop where
  ex : ∃ ls, t = txtL ls ∧ runsL d ls = some d ∧ ∀ x ∈ ls, LnOk x
theorem runs_cons (d : Nat) (x : Nat × List UInt8) (r : Lns) : runsL d (x :: r) = match stepL d x with | some e => runsL e r | none => none := rfl
theorem runs_app : ∀ (a b : Lns) (d e : Nat), runsL d a = some e → runsL d (a ++ b) = runsL e b
  | [], b, d, e, h => by obtain rfl := Option.some.inj h; rfl
  | x :: r, b, d, e, h => by
    rw [List.cons_append, runs_cons]
    rw [runs_cons] at h
    cases hs : stepL d x with
    | none => rw [hs] at h; cases h
    | some f =>
      rw [hs] at h
      exact runs_app r b f e h
theorem txt_app (a b : Lns) : txtL (a ++ b) = txtL a ++ txtL b := List.flatMap_append
theorem Blk.nil (d : Nat) : Blk d [] := ⟨[], rfl, rfl, fun _ h => by cases h⟩
theorem Blk.app {d : Nat} {a b : List UInt8} (h : Blk d a) (k : Blk d b) : Blk d (a ++ b) := by
  obtain ⟨x, h1, h2, h3⟩ := h.ex
  obtain ⟨y, k1, k2, k3⟩ := k.ex
  refine ⟨x ++ y, by rw [txt_app, h1, k1], by rw [runs_app x y d d h2, k2], fun z hz => ?_⟩
  rcases List.mem_append.1 hz with q | q
  · exact h3 z q
  · exact k3 z q
theorem Blk.flat {α : Type} {f : α → List UInt8} {d : Nat} : ∀ (l : List α), (∀ a ∈ l, Blk d (f a)) → Blk d (l.flatMap f)
  | [], _ => Blk.nil d
  | a :: r, h => by
    rw [List.flatMap_cons]
    exact (h a (List.mem_cons_self ..)).app (Blk.flat r fun b hb => h b (List.mem_cons_of_mem _ hb))
theorem Blk.line {s : List UInt8} (d : Nat) (h : s.all tch = true) : Blk d (ln d (s ++ [59])) := by
  refine ⟨[(d, s ++ [59])], by simp [txtL], ?_, fun x hx => ?_⟩
  · have e : (s ++ [59] : List UInt8).getLastD 0 = 59 := by simp
    unfold runsL stepL
    simp only [e]
    rfl
  · obtain rfl := List.mem_singleton.1 hx
    exact ⟨by simp, by rw [List.all_append, h]; rfl⟩
theorem Blk.brace {h t : List UInt8} {d : Nat} (hh : h.all tch = true) (k : Blk (d + 1) t) : Blk d (ln d (h ++ [32, 123]) ++ t ++ ln d [125]) := by
  obtain ⟨y, k1, k2, k3⟩ := k.ex
  refine ⟨(d, h ++ [32, 123]) :: (y ++ [(d, [125])]), ?_, ?_, fun x hx => ?_⟩
  · rw [k1]
    simp [txtL, List.flatMap_append]
  · have e : (h ++ [32, 123] : List UInt8).getLastD 0 = 123 := by simp
    have s1 : stepL d (d, h ++ [32, 123]) = some (d + 1) := by
      unfold stepL
      simp only [e]
      simp
    unfold runsL
    rw [s1]
    show runsL (d + 1) (y ++ [(d, [125])]) = _
    rw [runs_app y _ _ _ k2]
    unfold runsL stepL
    simp [runsL]
  · rcases List.mem_cons.1 hx with rfl | hx
    · exact ⟨by simp, by rw [List.all_append, hh]; rfl⟩
    · rcases List.mem_append.1 hx with q | q
      · exact k3 x q
      · obtain rfl := List.mem_singleton.1 q
        exact ⟨by simp, rfl⟩
theorem lt_tch {l : List UInt8} (h : l.all isLt = true) : l.all tch = true := all_mono (fun b hb => by unfold tch; rw [hb]; rfl) h
theorem tch_app {a b : List UInt8} (h : a.all tch = true) (k : b.all tch = true) : (a ++ b).all tch = true := by rw [List.all_append, h, k]; rfl
theorem tch_sp {a : List UInt8} (h : a.all tch = true) : (a ++ [32]).all tch = true := tch_app h (by decide)
theorem tch_day (d : Day) : (dayT d).all tch = true := by
  unfold dayT
  split
  · rename_i h; exact lt_tch (reads_lt (reads_txt h)).1
  · rfl
theorem tch_win (w : Win) : (winT w).all tch = true := by
  unfold winT
  split
  · exact tch_app (tch_app (tch_app (by decide) (tch_day _)) (by decide)) (tch_day _)
  · rfl
theorem tch_mode (m : Int) : (modeT m).all tch = true := by
  unfold modeT
  repeat' split
  all_goals decide
theorem tch_kind (m : Int) : (kindT m).all tch = true := by
  unfold kindT
  repeat' split
  all_goals decide
theorem tch_nmb (n : Int) : (nmbT n).all tch = true := lt_tch (kd_nmb n).2.1
theorem tch_dec (n : Int) (p : Nat) : (decT n p).all tch = true := lt_tch (kd_dec n p).2.1
theorem tch_nm {b : ByteArray} (h : NmOk b) : b.data.toList.all tch = true := lt_tch (kd_name h).2.1
theorem Blk.t2 {a b : List UInt8} {d : Nat} (h1 : a.all tch = true) (h2 : b.all tch = true) : Blk d (tellT d [a, b]) := by
  unfold tellT; rw [join2]; exact Blk.line d (tch_app (tch_sp h1) h2)
theorem Blk.t3 {a b c : List UInt8} {d : Nat} (h1 : a.all tch = true) (h2 : b.all tch = true) (h3 : c.all tch = true) : Blk d (tellT d [a, b, c]) := by
  unfold tellT; rw [join3]; exact Blk.line d (tch_app (tch_sp (tch_app (tch_sp h1) h2)) h3)
theorem Blk.t4 {a b c e : List UInt8} {d : Nat} (h1 : a.all tch = true) (h2 : b.all tch = true) (h3 : c.all tch = true) (h4 : e.all tch = true) : Blk d (tellT d [a, b, c, e]) := by
  unfold tellT; rw [join4]; exact Blk.line d (tch_app (tch_sp (tch_app (tch_sp (tch_app (tch_sp h1) h2)) h3)) h4)
theorem Blk.t6 {a b c e f g : List UInt8} {d : Nat} (h1 : a.all tch = true) (h2 : b.all tch = true) (h3 : c.all tch = true) (h4 : e.all tch = true) (h5 : f.all tch = true) (h6 : g.all tch = true) : Blk d (tellT d [a, b, c, e, f, g]) := by
  unfold tellT; rw [join6]; exact Blk.line d (tch_app (tch_sp (tch_app (tch_sp (tch_app (tch_sp (tch_app (tch_sp (tch_app (tch_sp h1) h2)) h3)) h4)) h5)) h6)
theorem Blk.tier (b : Bool) (t : Tier) : Blk 2 (tierT b t) := by
  unfold tierT
  split
  · exact Blk.t2 (by decide) (tch_dec _ _)
  · exact Blk.t4 (by decide) (tch_nmb _) (by decide) (tch_dec _ _)
theorem Blk.tiers (ts : List Tier) : ∀ i, Blk 2 (tiersUp ts i)
  | 0 => Blk.nil 2
  | i + 1 => (Blk.tiers ts i).app (Blk.tier _ _)
theorem Blk.adj (a : Adj) : Blk 1 (adjT a) := by
  unfold adjT
  repeat' split
  · exact Blk.t3 (by decide) (tch_dec _ _) (tch_mode _)
  · exact Blk.t2 (by decide) (tch_nmb _)
  · exact Blk.t2 (by decide) (tch_nmb _)
  · exact Blk.t2 (by decide) (tch_nmb _)
  · exact Blk.nil 1
theorem Blk.charge {c : Charge} (h : NmOk c.meter) : Blk 0 (chargeT c) := by
  have z1 : Blk 1 (if c.allowance = 0 then [] else tellT 1 [wAllowance, nmbT c.allowance]) := by
    split
    · exact Blk.nil 1
    · exact Blk.t2 (by decide) (tch_nmb _)
  have z2 : Blk 1 (if c.block = 1 then [] else tellT 1 [wBlock, nmbT c.block]) := by
    split
    · exact Blk.nil 1
    · exact Blk.t2 (by decide) (tch_nmb _)
  have z3 : Blk 1 (ln 1 (kindT c.kind ++ [32, 123]) ++ tiersUp c.tiers c.tiers.length ++ ln 1 [125]) := Blk.brace (tch_kind _) (Blk.tiers _ _)
  have z4 : Blk 1 (tellT 1 [wRound, modeT c.mode]) := Blk.t2 (by decide) (tch_mode _)
  have z5 : Blk 1 (c.adjusts.flatMap adjT) := Blk.flat _ fun a _ => Blk.adj a
  have := Blk.brace (d := 0) (h := wCharge ++ [32] ++ c.meter.data.toList ++ winT c.win) (tch_app (tch_app (by decide) (tch_nm h)) (tch_win _)) ((((z1.app z2).app z3).app z4).app z5)
  unfold chargeT
  simp only [List.append_assoc] at this ⊢
  exact this
theorem Blk.plan {p : Plan} (h : Gd p) : Blk 0 (planT p) := by
  unfold planT headT8
  exact ((((Blk.t4 (by decide) (tch_nm h.name.1) (by decide) (tch_nm h.name.2)).app (Blk.t3 (by decide) (tch_day _) (tch_day _))).app (Blk.flat _ fun m hm => Blk.t6 (by decide) (tch_nm (h.meters m hm).1) (by decide) (tch_nm (h.meters m hm).2.1) (by decide) (tch_nmb _))).app
    (Blk.flat _ fun f _ => Blk.t2 (by decide) (tch_app (tch_nmb _) (tch_win _)))).app (Blk.flat _ fun c hc => Blk.charge (h.charges c hc).meter)
/-! Where a reading of lines stands: lines that are over, those that are not, how many braces are open, where the next line begins, and the next letter. -/
def Rdl (ls : Lns) (dp fr i : Nat) : Prop := ∃ pre suf, ls = pre ++ suf ∧ runsL 0 pre = some dp ∧ fr = (txtL pre).length ∧ ((suf = [] ∧ i = fr) ∨ ∃ x r, suf = x :: r ∧ fr ≤ i ∧ i ≤ fr + x.1 + x.2.length)
theorem txt_cons (x : Nat × List UInt8) (r : Lns) : txtL (x :: r) = ln x.1 x.2 ++ txtL r := by simp [txtL]
theorem ln_len (d : Nat) (s : List UInt8) : (ln d s).length = d + s.length + 1 := by unfold ln; simp; omega
theorem Rdl.start (ls : Lns) : Rdl ls 0 0 0 := by
  refine ⟨[], ls, rfl, rfl, rfl, ?_⟩
  cases ls with
  | nil => exact .inl ⟨rfl, rfl⟩
  | cons x r => exact .inr ⟨x, r, rfl, Nat.le_refl _, Nat.zero_le _⟩
theorem Rdl.end {ls : Lns} {dp fr : Nat} (h : Rdl ls dp fr (txtL ls).length) (hr : runsL 0 ls = some 0) : dp = 0 ∧ fr = (txtL ls).length := by
  obtain ⟨pre, suf, e, h1, h2, ⟨h3, h4⟩ | ⟨x, r, h3, h4, h5⟩⟩ := h
  · rw [h3, List.append_nil] at e
    rw [← e, hr] at h1
    exact ⟨(Option.some.inj h1).symm, h4.symm⟩
  · exfalso
    have : (txtL ls).length = fr + (x.1 + x.2.length + 1 + (txtL r).length) := by
      rw [e, h3, txt_app, List.length_append, txt_cons, List.length_append, ln_len, h2]
    omega
/-- One letter more: within a line, or its end. -/
theorem Rdl.next {ls : Lns} {dp fr i : Nat} (h : Rdl ls dp fr i) (hi : i < (txtL ls).length) (ok : ∀ x ∈ ls, LnOk x) (hr : runsL 0 ls = some 0) :
    ((txtL ls).getD i 0 ≠ 10 ∧ Rdl ls dp fr (i + 1)) ∨
    ((txtL ls).getD i 0 = 10 ∧ ∃ x : Nat × List UInt8, ((txtL ls).take i).drop fr = List.replicate x.1 9 ++ x.2 ∧ fr ≤ i ∧ LnOk x ∧
      ((x.2.getLastD 0 = 125 ∧ x.1 + 1 = dp ∧ Rdl ls x.1 (i + 1) (i + 1)) ∨ (x.2.getLastD 0 = 123 ∧ x.1 = dp ∧ Rdl ls (dp + 1) (i + 1) (i + 1)) ∨ (x.2.getLastD 0 = 59 ∧ x.1 = dp ∧ Rdl ls dp (i + 1) (i + 1)))) := by
  obtain ⟨pre, suf, e, h1, h2, ⟨h3, h4⟩ | ⟨x, r, h3, h4, h5⟩⟩ := h
  · exfalso
    rw [h3, List.append_nil] at e
    rw [e, ← h2, h4] at hi
    omega
  · have hx : LnOk x := ok x (by rw [e, h3]; simp)
    have et : txtL ls = txtL pre ++ ((List.replicate x.1 9 ++ x.2) ++ 10 :: txtL r) := by
      rw [e, h3, txt_app, txt_cons]
      unfold ln
      simp [List.append_assoc]
    have hlen : (List.replicate x.1 (9 : UInt8) ++ x.2).length = x.1 + x.2.length := by simp
    by_cases hlt : i < fr + x.1 + x.2.length
    · refine .inl ⟨?_, pre, suf, e, h1, h2, .inr ⟨x, r, h3, by omega, by omega⟩⟩
      rw [et, List.getD_eq_getElem?_getD, List.getElem?_append_right (by omega), List.getElem?_append_left (by rw [hlen]; omega)]
      have hj : i - (txtL pre).length < (List.replicate x.1 (9 : UInt8) ++ x.2).length := by rw [hlen]; omega
      rw [List.getElem?_eq_getElem hj]
      show (List.replicate x.1 (9 : UInt8) ++ x.2)[i - (txtL pre).length] ≠ 10
      have hm := List.getElem_mem hj
      intro h10
      rw [h10] at hm
      rcases List.mem_append.1 hm with q | q
      · rw [List.eq_of_mem_replicate q] at h10
        exact absurd (List.eq_of_mem_replicate q) (by decide)
      · have := List.all_eq_true.1 hx.2 10 q
        exact absurd this (by decide)
    · have hi2 : i = fr + x.1 + x.2.length := by omega
      refine .inr ⟨?_, x, ?_, h4, hx, ?_⟩
      · rw [et, List.getD_eq_getElem?_getD, List.getElem?_append_right (by omega), List.getElem?_append_right (by rw [hlen]; omega), show i - (txtL pre).length - (List.replicate x.1 (9 : UInt8) ++ x.2).length = 0 by rw [hlen]; omega]
        rfl
      · rw [et, ← List.append_assoc, List.take_left' (by rw [List.length_append, hlen]; omega), List.drop_left' (by omega)]
      · have nx : ∀ d', stepL dp x = some d' → Rdl ls d' (i + 1) (i + 1) := fun d' hs => by
          refine ⟨pre ++ [x], r, by rw [e, h3]; simp, by rw [runs_app pre _ _ _ h1]; unfold runsL; rw [hs]; rfl, by rw [txt_app, List.length_append, txt_cons, List.length_append, ln_len, ← h2]; simp [txtL]; omega, ?_⟩
          cases r with
          | nil => exact .inl ⟨rfl, rfl⟩
          | cons y q => exact .inr ⟨y, q, rfl, Nat.le_refl _, by omega⟩
        have hs : stepL dp x ≠ none := by
          intro hn
          rw [e, h3, runs_app pre _ _ _ h1] at hr
          unfold runsL at hr
          rw [hn] at hr
          cases hr
        unfold stepL at hs nx
        by_cases c1 : x.2.getLastD 0 = 125
        · rw [if_pos c1] at hs nx
          by_cases c2 : x.1 + 1 = dp
          · rw [if_pos c2] at nx
            exact .inl ⟨c1, c2, nx _ rfl⟩
          · rw [if_neg c2] at hs; exact absurd rfl hs
        · rw [if_neg c1] at hs nx
          by_cases c2 : x.1 = dp
          · rw [if_pos c2] at hs nx
            by_cases c3 : x.2.getLastD 0 = 123
            · rw [if_pos c3] at nx
              exact .inr (.inl ⟨c3, c2, nx _ rfl⟩)
            · rw [if_neg c3] at hs nx
              by_cases c4 : x.2.getLastD 0 = 59
              · rw [if_pos c4] at nx
                exact .inr (.inr ⟨c4, c2, nx _ rfl⟩)
              · rw [if_neg c4] at hs; exact absurd rfl hs
          · rw [if_neg c2] at hs; exact absurd rfl hs
end Go.Proofs.YteelbdcgdkpioaaGreatDoor.P
/- The laws of layer 8: ShowLines. -/
namespace Go.Proofs.YteelbdcgdkpioaaGreatDoor.L08
open Go.RowKit Go.Sort P Mm Md Sw

theorem planT_len {p : Plan} (h : Sh p) : (planT p).length ≤ 500000000000 := by
  have h1 := headT8_len h.name
  have h2 := flat_le (f := meterT) (n := 300000) p.meters (fun m hm => meterT_len (h.meters m hm))
  have h3 := flat_le (f := feeT) (n := 300000) p.fees (fun m hm => feeT_len (h.fees m hm))
  have h4 := flat_le (f := chargeT) (n := 5000000) p.charges (fun m hm => chargeT_len (h.charges m hm))
  have h5 := h.cnt
  unfold planT
  simp only [List.length_append]
  omega
/-- A byte of a text, by its number. -/
theorem byte_of (s : ByteArray) (M : List UInt8) (hM : s.data.toList = M) (i : Nat) (hi : i < M.length) {z : Int} (hz : ((M.getD i 0).toNat : Int) = z) (W : World) : (Instr.index 9 (.string s) (.int .i64 (i : Int))).run Tryz.prog W = .ok (.int .u8 z) W := by
  have := R4.byte_at s (i : Int) (by omega) (by rw [← hM] at hi; have : i < s.size := by simpa using hi
                                                omega) W
  rw [hM, Int.toNat_natCast, hz] at this
  exact this
theorem last_of {d : Nat} {xs : List UInt8} (h : xs ≠ []) : (List.replicate d (9 : UInt8) ++ xs).getD (d + xs.length - 1) 0 = xs.getLastD 0 := by
  have hl : 0 < xs.length := List.length_pos_iff.2 h
  rw [List.getD_eq_getElem?_getD, List.getElem?_append_right (by simp; omega), List.length_replicate, show d + xs.length - 1 - d = xs.length - 1 by omega, List.getLastD_eq_getLast?, List.getLast?_eq_getElem?]
theorem tab_of {d j : Nat} {xs : List UInt8} (h : j < d) : (List.replicate d (9 : UInt8) ++ xs).getD j 0 = 9 := by
  rw [List.getD_eq_getElem?_getD, List.getElem?_append_left (by simpa using h), List.getElem?_replicate, if_pos h]; rfl
theorem notab_of {d : Nat} {xs : List UInt8} (h : xs ≠ [] ∧ xs.all tch = true) : (List.replicate d (9 : UInt8) ++ xs).getD d 0 ≠ 9 := by
  rw [List.getD_eq_getElem?_getD, List.getElem?_append_right (by simp), List.length_replicate, Nat.sub_self]
  cases xs with
  | nil => exact absurd rfl h.1
  | cons c r =>
    intro e
    have e : c = 9 := by simpa using e
    have := h.2
    rw [List.all_cons, e] at this
    exact absurd this (by simp [tch, isLt])
set_option maxHeartbeats 16000000 in
set_option maxRecDepth 100000 in
theorem lines_walk (s : ByteArray) (w : World) (k : Kz w) : Calls Tryz.prog 7 #[.string s] w fun e w' => e = .returned (.bool true) ∧ Below w.heap.size w w' := by
  have cA := alive_any w k
  have K := hid k
  clear k
  by_cases hs : (8192 : Int) < (s.size : Int)
  · clear K
    go_enter Tryz.func7, Tryz.ntmps7
    go_wp2_with (go_at_call 8; refine cA.mono ?_; rintro e w1 ⟨rfl, b1⟩)
    go_ret
    exact ⟨rfl, b1⟩
  obtain ⟨p, hp⟩ : ∃ p, p = (parsed s.data.toList).1 := ⟨_, rfl⟩
  obtain ⟨x, hx⟩ : ∃ x, x = (parsed s.data.toList).2.1 := ⟨_, rfl⟩
  obtain ⟨y, hy⟩ : ∃ x, x = (parsed s.data.toList).2.2.1 := ⟨_, rfl⟩
  obtain ⟨z, hz⟩ : ∃ x, x = (parsed s.data.toList).2.2.2 := ⟨_, rfl⟩
  obtain ⟨S, hS⟩ : ∃ S : ByteArray, S = ⟨(planT p).toArray⟩ := ⟨_, rfl⟩
  have eS : S.data.toList = planT p := by rw [hS]
  have HL : Hid (x = 0 → Sh p ∧ ∃ ls, S.data.toList = txtL ls ∧ runsL 0 ls = some 0 ∧ (∀ x ∈ ls, LnOk x) ∧ S.size ≤ 500000000000) := hid (fun h0 => by
    rw [hx] at h0
    have g := parsed_gd h0
    have sh := parsed_sh h0
    rw [← hp] at g sh
    obtain ⟨ls, h1, h2, h3⟩ := (Blk.plan g).ex
    refine ⟨sh, ls, by rw [eS, h1], h2, h3, ?_⟩
    rw [← size_list, eS]
    exact planT_len sh)
  have cP := fun W => R7.ref_lies s W
  rw [← hp, ← hx, ← hy, ← hz] at cP
  have CP := hid cP
  have HSS := hid hS
  clear cP hp hx hy hz hS eS
  go_enter Tryz.func7, Tryz.ntmps7
  go_wp2_with fail
  refine cA.mono ?_
  rintro e w1 ⟨rfl, b1⟩
  have BW := hid b1
  clear cA b1
  go_wp2_with fail
  refine (CP.out w1).mono ?_
  rintro e w2 ⟨ma, mc, fa, fc, ca, cc, rfl, lA, b2⟩
  obtain ⟨wA, hwA⟩ : ∃ W, W = w2.alloc (.cells #[.string p.name, .string p.cur, .int .i64 p.a.y, .int .i64 p.a.m, .int .i64 p.a.d, .int .i64 p.b.y, .int .i64 p.b.m, .int .i64 p.b.d, .slice ma p.meters.length mc, .slice fa p.fees.length fc, .slice ca p.charges.length cc, .int .i64 p.line, .int .i64 p.col] 29) := ⟨_, rfl⟩
  obtain ⟨k1, hk1⟩ : ∃ k, k = w2.heap.size := ⟨_, rfl⟩
  have bA : Below w2.heap.size w2 wA := by rw [hwA]; exact bel_alloc _ _
  have XP : Hid (R7.Bx wA k1 [.string p.name, .string p.cur, .int .i64 p.a.y, .int .i64 p.a.m, .int .i64 p.a.d, .int .i64 p.b.y, .int .i64 p.b.m, .int .i64 p.b.d, .slice ma p.meters.length mc, .slice fa p.fees.length fc, .slice ca p.charges.length cc, .int .i64 p.line, .int .i64 p.col]) := hid (by rw [hwA, hk1]; exact R7.Bx.new _ _ _)
  have LP := hid (lA.on bA)
  replace BW := hid (bel_on BW.out (bel_on b2 bA))
  have HW := hid hwA
  have HK := hid hk1
  clear CP lA b2 bA hwA hk1
  unfold planC
  go_upto_region 6 with (first
    | (with_reducible refine wpList_store_new (op := Oper.mk none (Op.store 29 (Operand.tmp 3) (Operand.tmp 22)) _ _ _ _) ?_ 29 (.tmp 3) (.tmp 22) ?_ w2 #[.string ⟨#[]⟩, .string ⟨#[]⟩, .int .i64 0, .int .i64 0, .int .i64 0, .int .i64 0, .int .i64 0, .int .i64 0, .slice none 0 0, .slice none 0 0, .slice none 0 0, .int .i64 0, .int .i64 0] #[.string p.name, .string p.cur, .int .i64 p.a.y, .int .i64 p.a.m, .int .i64 p.a.d, .int .i64 p.b.y, .int .i64 p.b.m, .int .i64 p.b.d, .slice ma p.meters.length mc, .slice fa p.fees.length fc, .slice ca p.charges.length cc, .int .i64 p.line, .int .i64 p.col] ?_ ?_ ?_ ?_ ?_ ?_; rfl; rfl; go_simp; go_simp; kernel_rfl; rfl; (simp [Value.oneCell']))
    | fail)
  rw [← HW.out, ← HK.out]
  clear HW HK
  by_cases hx0 : x = 0
  case neg =>
    clear HL
    go_wp2
    go_ret
    exact ⟨rfl, BW.out⟩
  obtain ⟨sh, ls, e1, e2, e3, e4⟩ := HL.out hx0
  subst hx0
  have RP : Hid (wA.rangeAt k1 0 [.string p.name, .string p.cur, .int .i64 p.a.y, .int .i64 p.a.m, .int .i64 p.a.d, .int .i64 p.b.y, .int .i64 p.b.m, .int .i64 p.b.d, .slice ma p.meters.length mc, .slice fa p.fees.length fc, .slice ca p.charges.length cc, .int .i64 p.line, .int .i64 p.col]) := hid (range_of XP.out.cell)
  have NP := hid (plan_any tx p ma mc fa fc ca cc wA LP.out sh (K.out.later BW.out))
  rw [← HSS.out] at NP
  unfold planC at NP
  clear sh HL XP LP HSS
  go_upto_region 9 with (first
    | (with_reducible refine wpList_load_mid (op := Oper.mk (some 28) (Op.load 29 (Operand.tmp 3)) _ _ _ _) ?_ 29 (.tmp 3) ?_ k1 0 ?_ [.string p.name, .string p.cur, .int .i64 p.a.y, .int .i64 p.a.m, .int .i64 p.a.d, .int .i64 p.b.y, .int .i64 p.b.m, .int .i64 p.b.d, .slice ma p.meters.length mc, .slice fa p.fees.length fc, .slice ca p.charges.length cc, .int .i64 p.line, .int .i64 p.col] _ RP.out Tryz.underlying29 ?_ ?_ ?_; rfl; rfl; go_simp; rfl; kernel_rfl)
    | (go_at_call 12; refine NP.out.mono ?_; rintro e w4 ⟨rfl, b4⟩; replace BW := hid (BW.out.trans (b4.mono BW.out.size)); clear b4)
    | fail)
  clear RP NP K
  obtain ⟨n, hn⟩ : ∃ n, n = S.size := ⟨_, rfl⟩
  have hT : (txtL ls).length = n := by rw [hn, ← e1, size_list]
  have HE1 := hid e1
  have HE2 := hid e2
  have HE3 := hid e3
  have HT := hid hT
  have hnz : (S.size : Int) = (n : Int) := by rw [hn]
  have hnb : (n : Int) ≤ 500000000000 := by omega
  have HN := hid hn
  clear e1 e2 e3 e4 hT hn
  go_wp2
  go_loopw [8, 9, 10] (fun d f i wr => ∃ dp fr i' : Nat, d = .int .i64 (dp : Int) ∧ f = .int .i64 (fr : Int) ∧ i = .int .i64 (i' : Int) ∧ i' ≤ n ∧ Hid (Rdl ls dp fr i') ∧ Hid (Below w.heap.size w wr)) (fun _ _ i _ => n - (intOf i).toNat)
  case atStart => exact ⟨0, 0, 0, rfl, rfl, rfl, Nat.zero_le _, hid (Rdl.start ls), BW⟩
  case round =>
    obtain ⟨dp, fr, i', rfl, rfl, rfl, hi, hR, hB⟩ := hrel
    clear BW
    by_cases hlt : i' < n
    · have hlt2 : i' < (txtL ls).length := by rw [HT.out]; exact hlt
      rcases hR.out.next hlt2 HE3.out HE2.out with ⟨c1, c2⟩ | ⟨c1, ⟨x1, xs⟩, hM, hfr, hok, hcase⟩
      · obtain ⟨c, hc⟩ : ∃ c : Int, c = (((txtL ls).getD i' 0).toNat : Int) := ⟨_, rfl⟩
        have hb := byte_of S _ HE1.out i' hlt2 hc.symm
        have hc10 : ¬ c = 10 := by
          intro e
          rw [hc] at e
          exact c1 (UInt8.toNat_inj.1 (by show _ = 10; omega))
        have C2 := hid c2
        clear hc c1 c2 hlt2
        go_wp2
        go_roundw
        case rel => exact ⟨dp, fr, i' + 1, rfl, rfl, by simp, by omega, C2, hB⟩
        case measure => simp [intOf]; omega
      · have hok : xs ≠ [] ∧ xs.all tch = true := hok
        have hM : ((txtL ls).take i').drop fr = List.replicate x1 9 ++ xs := hM
        have hb := byte_of S _ HE1.out i' hlt2 (z := 10) (by rw [c1]; rfl)
        have hsl := fun W => run_slice_string (P := Tryz.prog) (w := W) 9 S .i64 .i64 (fr : Int) (i' : Int) Tryz.underlying9 (by omega) (by omega) (by omega)
        rw [Int.toNat_natCast, Int.toNat_natCast] at hsl
        obtain ⟨l, hl⟩ : ∃ l, l = S.extract fr i' := ⟨_, rfl⟩
        have hlM : l.data.toList = List.replicate x1 9 ++ xs := by
          rw [hl, Lib.extract_data, HE1.out, ← hM, List.drop_take]
        simp only [← hl] at hsl
        have hlz : (l.size : Int) = ((x1 + xs.length : Nat) : Int) := by rw [← size_list, hlM]; simp
        have hpos : 0 < xs.length := List.length_pos_iff.2 hok.1
        have hmb : x1 + xs.length ≤ n := by
          have := congrArg List.length hM
          rw [List.length_drop, List.length_take] at this
          simp only [List.length_append, List.length_replicate] at this
          omega
        obtain ⟨m, hm⟩ : ∃ m : Nat, m = x1 + xs.length := ⟨_, rfl⟩
        rw [← hm] at hlz hmb
        have hlen : (List.replicate x1 (9 : UInt8) ++ xs).length = m := by rw [hm]; simp
        have htl : l.toList = List.replicate x1 9 ++ xs := by rw [ByteArray.toList_eq, hlM]
        have hne : (List.replicate x1 (9 : UInt8) ++ xs == []) = false := beq_eq_false_iff_ne.2 (fun e => by rw [e] at hlen; simp at hlen; omega)
        have HIN : Hid (∀ j : Nat, j < x1 → ∀ W : World, (Instr.index 9 (.string l) (.int .i64 (j : Int))).run Tryz.prog W = .ok (.int .u8 9) W) := hid fun j hj W => byte_of l _ hlM j (by rw [hlen]; omega) (z := 9) (by rw [tab_of hj]; rfl) W
        obtain ⟨c9, hc9⟩ : ∃ c : Int, c = (((List.replicate x1 (9 : UInt8) ++ xs).getD x1 0).toNat : Int) := ⟨_, rfl⟩
        have n9 : ¬ c9 = 9 := by
          intro e
          rw [hc9] at e
          exact notab_of (d := x1) hok (UInt8.toNat_inj.1 (by show _ = 9; omega))
        have hOut := fun W => byte_of l _ hlM x1 (by rw [hlen]; omega) hc9.symm W
        have HOUT := hid hOut
        have hlast := last_of (d := x1) hok.1
        rw [← hm] at hlast
        have hLB : ∀ z : Int, ((xs.getLastD 0).toNat : Int) = z → ∀ W : World, (Instr.index 9 (.string l) (.int .i64 ((m : Int) - 1))).run Tryz.prog W = .ok (.int .u8 z) W := fun z hz W => by
          have := byte_of l _ hlM (m - 1) (by rw [hlen]; omega) (z := z) (by rw [hlast]; exact hz) W
          rw [show ((m - 1 : Nat) : Int) = (m : Int) - 1 by omega] at this
          exact this
        have hm1 : (1 : Int) ≤ (m : Int) := by omega
        have hmB : (m : Int) ≤ 500000000000 := by omega
        have hx1m : x1 < m := by omega
        have hx1B : (x1 : Int) ≤ 500000000000 := by omega
        have NE := hid hne
        clear hl hlM hlast hM hlen hc9 hOut hok hlt2 c1 hpos hm hmb
        rcases hcase with ⟨q1, q2, q3⟩ | ⟨q1, q2, q3⟩ | ⟨q1, q2, q3⟩
        · have hend := hLB 125 (by rw [q1]; rfl)
          have q2 : x1 + 1 = dp := q2
          subst q2
          have Q3 : Hid (Rdl ls x1 (i' + 1) (i' + 1)) := hid q3
          have hne2 := NE.out
          clear q3 q1 hLB hR NE
          go_wp2
          clear hb hsl hend hne2 htl
          go_loopw [13] (fun t wi => ∃ j : Nat, t = .int .i64 (j : Int) ∧ j ≤ x1 ∧ Hid (Below w.heap.size w wi)) (fun t _ => x1 - (intOf t).toNat)
          case atStart => exact ⟨0, rfl, Nat.zero_le _, hB⟩
          case round =>
            obtain ⟨j, rfl, hj, hBi⟩ := hrel
            have hjm : (j : Int) < (m : Int) := by omega
            by_cases hjx : j < x1
            · have hbj := HIN.out j hjx
              go_wp2
              go_roundw
              case rel => exact ⟨j + 1, by simp, by omega, hBi⟩
              case measure => simp [intOf]; omega
            · obtain rfl : j = x1 := by omega
              have hbj := HOUT.out
              go_wp2
              go_roundw
              case rel => exact ⟨j, i' + 1, i' + 1, by simp, by simp, by simp, by omega, Q3, hBi⟩
              case measure => simp [intOf]; omega
        · have hend := hLB 123 (by rw [q1]; rfl)
          have q2 : x1 = dp := q2
          subst q2
          have Q3 : Hid (Rdl ls (x1 + 1) (i' + 1) (i' + 1)) := hid q3
          have hne2 := NE.out
          clear q3 q1 hLB hR NE
          go_wp2
          clear hb hsl hend hne2 htl
          go_loopw [13] (fun t wi => ∃ j : Nat, t = .int .i64 (j : Int) ∧ j ≤ x1 ∧ Hid (Below w.heap.size w wi)) (fun t _ => x1 - (intOf t).toNat)
          case atStart => exact ⟨0, rfl, Nat.zero_le _, hB⟩
          case round =>
            obtain ⟨j, rfl, hj, hBi⟩ := hrel
            have hjm : (j : Int) < (m : Int) := by omega
            by_cases hjx : j < x1
            · have hbj := HIN.out j hjx
              go_wp2
              go_roundw
              case rel => exact ⟨j + 1, by simp, by omega, hBi⟩
              case measure => simp [intOf]; omega
            · obtain rfl : j = x1 := by omega
              have hbj := HOUT.out
              go_wp2
              go_roundw
              case rel => exact ⟨j + 1, i' + 1, i' + 1, by simp, by simp, by simp, by omega, Q3, hBi⟩
              case measure => simp [intOf]; omega
        · have hend := hLB 59 (by rw [q1]; rfl)
          have q2 : x1 = dp := q2
          subst q2
          have Q3 : Hid (Rdl ls x1 (i' + 1) (i' + 1)) := hid q3
          have hne2 := NE.out
          clear q3 q1 hLB hR NE
          go_wp2
          clear hb hsl hend hne2 htl
          go_loopw [13] (fun t wi => ∃ j : Nat, t = .int .i64 (j : Int) ∧ j ≤ x1 ∧ Hid (Below w.heap.size w wi)) (fun t _ => x1 - (intOf t).toNat)
          case atStart => exact ⟨0, rfl, Nat.zero_le _, hB⟩
          case round =>
            obtain ⟨j, rfl, hj, hBi⟩ := hrel
            have hjm : (j : Int) < (m : Int) := by omega
            by_cases hjx : j < x1
            · have hbj := HIN.out j hjx
              go_wp2
              go_roundw
              case rel => exact ⟨j + 1, by simp, by omega, hBi⟩
              case measure => simp [intOf]; omega
            · obtain rfl : j = x1 := by omega
              have hbj := HOUT.out
              go_wp2
              go_roundw
              case rel => exact ⟨j, i' + 1, i' + 1, by simp, by simp, by simp, by omega, Q3, hBi⟩
              case measure => simp [intOf]; omega
    · obtain rfl : i' = n := by omega
      have he := (show Rdl ls dp fr (txtL ls).length by rw [HT.out]; exact hR.out).end HE2.out
      rw [HT.out] at he
      obtain ⟨rfl, rfl⟩ := he
      clear hR hlt
      go_wp2
      go_ret
      exact ⟨rfl, hB.out⟩
end Go.Proofs.YteelbdcgdkpioaaGreatDoor.L08
