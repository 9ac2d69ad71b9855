/- The laws of layer 5, out of what package lex answers ('Lx'): alive, LexIs. -/
import Derived.Test.YtcigholifpmdjaaRef5c
import Derived.Deep.RegionWith
namespace Go.Proofs.Ytcigholifpmdjaa.L05
open Go.RowKit Go.Sort P R4 R5

/-- Tokens that lie from a place on. -/
def LieAt (w : World) (b o : Nat) (ts : List Tok) : Prop := b < w.heap.size ∧
    ∀ j t, ts[j]? = some t → w.cell? ⟨b, o + j * 4, none⟩ = some (.int .i64 t.k) ∧ w.cell? ⟨b, o + j * 4 + 1, none⟩ = some (.string ⟨t.t.toArray⟩) ∧ w.cell? ⟨b, o + j * 4 + 2, none⟩ = some (.int .i64 t.ln) ∧ w.cell? ⟨b, o + j * 4 + 3, none⟩ = some (.int .i64 t.cl)
theorem LieAt.on {w w1 : World} {b o : Nat} {ts : List Tok} (h : LieAt w b o ts) (hb : Below w.heap.size w w1) : LieAt w1 b o ts := by
  refine ⟨Nat.lt_of_lt_of_le h.1 hb.size, fun j t hj => ?_⟩
  obtain ⟨a0, a1, a2, a3⟩ := h.2 j t hj
  rw [hb.cell h.1, hb.cell h.1, hb.cell h.1, hb.cell h.1]
  exact ⟨a0, a1, a2, a3⟩
theorem LieAt.alloc {w : World} {b o : Nat} {ts : List Tok} (h : LieAt w b o ts) (x : Obj) : LieAt (w.alloc x) b o ts := h.on ((Below.refl _ _).alloc (Nat.le_refl _) _)
/-- Behind a block that was laid, and a call. -/
theorem LieAt.later {w w1 : World} {b o : Nat} {ts : List Tok} {x : Obj} (h : LieAt w b o ts) (hb : Below (w.alloc x).heap.size (w.alloc x) w1) : LieAt w1 b o ts := (h.alloc x).on hb
/-- An address where tokens lie, if there are any. -/
def Form (w : World) (ao : Option Addr) (ts : List Tok) : Prop := ts ≠ [] → ∃ b o, ao = some ⟨b, o, none⟩ ∧ LieAt w b o ts
theorem Form.on {w w1 : World} {ao : Option Addr} {ts : List Tok} (h : Form w ao ts) (hb : Below w.heap.size w w1) : Form w1 ao ts := fun n => by
  obtain ⟨b, o, h1, h2⟩ := h n
  exact ⟨b, o, h1, h2.on hb⟩
theorem Form.alloc {w : World} {ao : Option Addr} {ts : List Tok} (h : Form w ao ts) (x : Obj) : Form (w.alloc x) ao ts := h.on ((Below.refl _ _).alloc (Nat.le_refl _) _)
theorem Form.later {w w1 : World} {ao : Option Addr} {ts : List Tok} {x : Obj} (h : Form w ao ts) (hb : Below (w.alloc x).heap.size (w.alloc x) w1) : Form w1 ao ts := (h.alloc x).on hb
/-- A slice that holds tokens. -/
def Holds (w : World) (v : Value) (ts : List Tok) : Prop := ∃ ao cap, v = .slice ao ts.length cap ∧ Form w ao ts
theorem tokCells_at (ts : List Tok) (j : Nat) (t : Tok) (h : ts[j]? = some t) : (tokCells ts)[j * 4]? = some (.int .i64 t.k) ∧ (tokCells ts)[j * 4 + 1]? = some (.string ⟨t.t.toArray⟩) ∧ (tokCells ts)[j * 4 + 2]? = some (.int .i64 t.ln) ∧ (tokCells ts)[j * 4 + 3]? = some (.int .i64 t.cl) := by
  induction ts generalizing j with
  | nil => cases j <;> cases h
  | cons a r ih =>
    have e : tokCells (a :: r) = .int .i64 a.k :: .string ⟨a.t.toArray⟩ :: .int .i64 a.ln :: .int .i64 a.cl :: tokCells r := rfl
    rw [e]
    cases j with
    | zero =>
      obtain rfl : a = t := by simpa using h
      exact ⟨rfl, rfl, rfl, rfl⟩
    | succ j =>
      rw [show (j + 1) * 4 = j * 4 + 1 + 1 + 1 + 1 by omega]
      exact ih j (by simpa using h)
/-- What a call's own row holds. -/
theorem holds_own {w : World} {base : Nat} {e : TypeId} {v : Value} {ts : List Tok} (h : w.ownsRow base e 4 v ts.length (tokCells ts)) : Holds w v ts := by
  rcases h.2 with ⟨h1, h2⟩ | ⟨g, cap, cur, h1, h2, h3, h4, h5, h6, h7⟩
  · obtain rfl : ts = [] := List.eq_nil_of_length_eq_zero h2
    exact ⟨none, 0, h1, fun n => absurd rfl n⟩
  · have hg : g < w.heap.size := by
      rcases Nat.lt_or_ge g w.heap.size with k | k
      · exact k
      · rw [Array.getElem?_eq_none k] at h3; cases h3
    subst h1
    have hc := fun j hj => h.cellAt j hj
    refine ⟨some ⟨g, 0, none⟩, cap, rfl, fun _ => ⟨g, 0, rfl, hg, fun j t hj => ?_⟩⟩
    have hl : j < ts.length := (List.getElem?_eq_some_iff.1 hj).1
    obtain ⟨a0, a1, a2, a3⟩ := tokCells_at ts j t hj
    rw [Nat.zero_add, hc _ (by omega), hc _ (by omega), hc _ (by omega), hc _ (by omega)]
    exact ⟨a0, a1, a2, a3⟩
/-- A fault as the program holds it. -/
def flt (f : Nat × Nat × Nat) : Value := .agg #[.int .i64 f.1, .int .i64 f.2.1, .int .i64 f.2.2]
/-- What package lex answers, in the worlds that K tells. -/
structure Lx (K : World → Prop) : Prop where
  keep : ∀ {w w' : World}, K w → Below w.heap.size w w' → K w'
  of : ∀ (s : ByteArray) (w : World), K w → s.size ≤ 1000000 → Calls Try.prog 9 #[.string s] w fun e w' => e = .returned (.int .i64 (kd s.data.toList)) ∧ Below w.heap.size w w'
  lex : ∀ (s : ByteArray) (w : World), K w → Calls Try.prog 7 #[.string s] w fun e w' => ∃ v, e = .returned (.tuple #[v, flt (lexed s.data.toList).2]) ∧ Holds w' v (lexed s.data.toList).1 ∧ Below w.heap.size w w'
theorem lex_ref (s : ByteArray) (w : World) : Calls Try.prog 8 #[.string s] w fun e w' => ∃ v, e = .returned (.tuple #[v, .int .i64 (lexed s.data.toList).2.1, .int .i64 (lexed s.data.toList).2.2.1, .int .i64 (lexed s.data.toList).2.2.2]) ∧
    Holds w' v (lexed s.data.toList).1 ∧ Below w.heap.size w w' := (lex_any s w).mono fun _ _ ⟨v, h1, h2, h3⟩ => ⟨v, h1, holds_own h2, h3⟩
/-- Each token is of the kind that its letters are. -/
theorem lx_toks (n : Nat) (l : List UInt8) (ln cl : Nat) : ∀ t ∈ (lx n l ln cl).1, t.t.length ≤ l.length ∧ kd t.t = t.k := by
  induction n generalizing l ln cl with
  | zero =>
    intro t ht
    simp only [lx, List.mem_singleton] at ht
    subst ht
    exact ⟨Nat.zero_le _, rfl⟩
  | succ n ih =>
    cases l with
    | nil =>
      intro t ht
      simp only [lx, List.mem_singleton] at ht
      subst ht
      exact ⟨Nat.zero_le _, rfl⟩
    | cons c r =>
      intro t ht
      have hd : ∀ ln cl, t ∈ (lx n ((c :: r).drop (piece (c :: r))) ln cl).1 → t.t.length ≤ (c :: r).length ∧ kd t.t = t.k := fun ln cl h => by
        have := ih _ ln cl t h
        rw [List.length_drop] at this
        exact ⟨by omega, this.2⟩
      unfold lx at ht
      split at ht
      · exact hd _ _ ht
      · split at ht
        · cases ht
        · rcases List.mem_cons.1 ht with h | h
          · subst h
            exact ⟨by simp only [List.length_take]; omega, rfl⟩
          · exact hd _ _ h
theorem lexed_toks (l : List UInt8) : ∀ t ∈ (lexed l).1, t.t.length ≤ 8192 ∧ kd t.t = t.k := by
  intro t ht
  unfold lexed at ht
  split at ht
  · cases ht
  · split at ht
    · have := lx_toks _ _ _ _ t ht
      exact ⟨by omega, this.2⟩
    · cases ht
theorem lexed_count (l : List UInt8) : (lexed l).1.length ≤ 8193 := by
  unfold lexed
  split
  · exact Nat.zero_le _
  · split
    · have := lex_count l 1 1
      simp only
      omega
    · exact Nat.zero_le _
theorem lexed_a : lexed [112, 108, 97, 110, 32, 112, 49, 59] = ([⟨2, [112, 108, 97, 110], 1, 1⟩, ⟨1, [112, 49], 1, 6⟩, ⟨5, [59], 1, 8⟩, ⟨0, [], 1, 9⟩], 0, 0, 0) := by decide
theorem lexed_b : lexed [32, 50, 48, 50, 52, 45, 48, 50, 45, 51, 48] = ([], 3, 1, 2) := by decide
theorem alive_any {K : World → Prop} (D : Lx K) (w : World) (k : K w) : Calls Try.prog 6 #[] w fun e w' => e = .returned (.bool true) ∧ Below w.heap.size w w' := by
  have cA : ∀ W, K W → Calls Try.prog 7 #[.string ⟨#[112, 108, 97, 110, 32, 112, 49, 59]⟩] W fun e w' => ∃ v, e = .returned (.tuple #[v, flt (0, 0, 0)]) ∧ Holds w' v [⟨2, [112, 108, 97, 110], 1, 1⟩, ⟨1, [112, 49], 1, 6⟩, ⟨5, [59], 1, 8⟩, ⟨0, [], 1, 9⟩] ∧ Below W.heap.size W w' := fun W h => by
    have := D.lex ⟨#[112, 108, 97, 110, 32, 112, 49, 59]⟩ W h
    rw [show (⟨#[112, 108, 97, 110, 32, 112, 49, 59]⟩ : ByteArray).data.toList = [112, 108, 97, 110, 32, 112, 49, 59] from rfl, lexed_a] at this
    exact this
  have cB : ∀ W, K W → Calls Try.prog 7 #[.string ⟨#[32, 50, 48, 50, 52, 45, 48, 50, 45, 51, 48]⟩] W fun e w' => ∃ v, e = .returned (.tuple #[v, flt (3, 1, 2)]) ∧ Below W.heap.size W w' := fun W h => by
    have := D.lex ⟨#[32, 50, 48, 50, 52, 45, 48, 50, 45, 51, 48]⟩ W h
    rw [show (⟨#[32, 50, 48, 50, 52, 45, 48, 50, 45, 51, 48]⟩ : ByteArray).data.toList = [32, 50, 48, 50, 52, 45, 48, 50, 45, 51, 48] from rfl, lexed_b] at this
    exact this.mono fun _ _ ⟨v, h1, _, h3⟩ => ⟨v, h1, h3⟩
  have cO : ∀ W, K W → Calls Try.prog 9 #[.string ⟨#[50, 48, 50, 52, 45, 48, 50, 45, 50, 57]⟩] W fun e w' => e = .returned (.int .i64 4) ∧ Below W.heap.size W w' := fun W h => D.of ⟨#[50, 48, 50, 52, 45, 48, 50, 45, 50, 57]⟩ W h (by decide)
  go_enter Try.func6, Try.ntmps6
  unfold flt at cA cB
  go_wp2_with (first
    | (go_at_call_of 7 (Value.string ⟨#[112, 108, 97, 110, 32, 112, 49, 59]⟩); refine (cA _ k).mono ?_; rintro e w1 ⟨v, rfl, hH, b1⟩; obtain ⟨ao, cap, rfl, hF⟩ := hH; obtain ⟨b, o, rfl, hL⟩ := hF (by decide); have k1 := D.keep (D.keep k b1) ((Below.refl _ w1).alloc (Nat.le_refl _) (.cells #[.int .i64 0, .int .i64 0, .int .i64 0] 26)))
    | (go_at_call_of 7 (Value.string ⟨#[32, 50, 48, 50, 52, 45, 48, 50, 45, 51, 48]⟩); refine (cB _ k1).mono ?_; rintro e w2 ⟨v2, rfl, b2⟩; have k2 := D.keep k1 b2; have hL2 := hL.later b2; have lb := hL2.1; have c20 := (hL2.2 0 _ rfl).1; have c21 := (hL2.2 1 _ rfl).2.1; have c22 := (hL2.2 2 _ rfl).1; simp only [Nat.zero_mul, Nat.add_zero, Nat.one_mul, Nat.reduceMul, Nat.add_assoc, Nat.reduceAdd] at c20 c21 c22; have X := box3 b2; obtain ⟨x0, x1, x2, xl, xb⟩ := X; have B2 := below_on b1 xb; clear hL hL2)
    | (go_at_call 9; refine (cO _ (D.keep k2 ((Below.refl _ w2).alloc (Nat.le_refl _) (.cells #[.int .i64 3, .int .i64 1, .int .i64 2] 26)))).mono ?_; rintro e w3 ⟨rfl, b3⟩; have B3 := below_on B2 (box3 b3).2.2.2.2))
  go_ret
  exact ⟨rfl, B3⟩
set_option maxHeartbeats 4000000 in
set_option maxRecDepth 100000 in
theorem is_walk {K : World → Prop} (D : Lx K) (s : ByteArray) (w : World) (k : K w) : Calls Try.prog 3 #[.string s] w fun e w' => e = .returned (.bool true) ∧ Below w.heap.size w w' := by
  have cA := alive_any D w k
  by_cases hs : (16384 : Int) < (s.size : Int)
  · go_enter Try.func3, Try.ntmps3
    go_wp2_with (go_at_call 6; refine cA.mono ?_; rintro e w1 ⟨rfl, b1⟩)
    go_ret
    exact ⟨rfl, b1⟩
  · have cL := fun W kk => D.lex s W kk
    have cL' := fun W => lex_ref s W
    have cO := fun W kk => D.of s W kk (by omega)
    have cO' := fun W => R5.of_any s W (by omega)
    obtain ⟨ts, hts⟩ : ∃ ts, ts = (lexed s.data.toList).1 := ⟨_, rfl⟩
    have htok := lexed_toks s.data.toList
    obtain ⟨E, hE⟩ : ∃ E : Int, E = ((lexed s.data.toList).2.1 : Int) := ⟨_, rfl⟩
    obtain ⟨L, hL⟩ : ∃ L : Int, L = ((lexed s.data.toList).2.2.1 : Int) := ⟨_, rfl⟩
    obtain ⟨C, hC⟩ : ∃ C : Int, C = ((lexed s.data.toList).2.2.2 : Int) := ⟨_, rfl⟩
    obtain ⟨F, hF⟩ : ∃ F : Int, F = (kd s.data.toList : Int) := ⟨_, rfl⟩
    unfold flt at cL
    simp only [← hE, ← hL, ← hC, ← hts] at cL cL'
    simp only [← hF] at cO cO'
    have hcnt := lexed_count s.data.toList
    rw [← hts] at htok hcnt
    clear hE hL hC hF hts
    go_enter Try.func3, Try.ntmps3
    go_wp2_with (first
      | (go_at_call 6; refine cA.mono ?_; rintro e w1 ⟨rfl, b1⟩; have k1 := D.keep k b1)
      | (go_at_call 7; refine (cL _ k1).mono ?_; rintro e w2 ⟨v2, rfl, hH, b2⟩; obtain ⟨ao2, cap2, rfl, hF2⟩ := hH; have B2 := below_on b1 b2)
      | (go_at_call 8; refine (cL' _).mono ?_; rintro e w3 ⟨v3, rfl, hH3, b3⟩; obtain ⟨ao3, cap3, rfl, hF3⟩ := hH3; have X := box3 b3; obtain ⟨x0, x1, x2, xl, xb⟩ := X; have B3 := below_on B2 xb; have k3 := D.keep k B3; have hG2 := hF2.on xb; clear xb b3 B2 hF2)
      | (go_at_call 9; refine (cO _ k3).mono ?_; rintro e w4 ⟨rfl, b4⟩; have B4 := below_on B3 b4; have hG4 := hG2.on b4; have hK4 := hF3.on b4; clear hG2 hF3)
      | (go_at_call 10; refine (cO' _).mono ?_; rintro e w5 ⟨rfl, b5⟩; have B5 := below_on B4 b5; have hG5 := hG4.on b5; have hK5 := hK4.on b5; clear hG4 hK4))
    have HTok := hid htok
    have HF5 := hid hG5
    have HK5 := hid hK5
    clear htok hG5 hK5
    go_loopw [60] (fun i wr => ∃ i' : Int, i = .int .i64 i' ∧ 0 ≤ i' ∧ i' ≤ ts.length ∧ Hid (Form wr ao2 ts ∧ Form wr ao3 ts ∧ Below w.heap.size w wr)) (fun i _ => ((ts.length : Int) - intOf i).toNat)
    case atStart => exact ⟨0, rfl, by omega, by omega, hid ⟨HF5.out, HK5.out, B5⟩⟩
    case round =>
      obtain ⟨i', rfl, i0, i1, hst⟩ := hrel
      by_cases hlt : i' < ts.length
      · have hil : i'.toNat < ts.length := by omega
        obtain ⟨h2, h3, hB⟩ := hst.out
        obtain ⟨b, o, rfl, hL2⟩ := h2 (fun h => by rw [h] at hil; cases hil)
        obtain ⟨b3, o3, rfl, hL3⟩ := h3 (fun h => by rw [h] at hil; cases hil)
        have ht : ts[i'.toNat]? = some (ts[i'.toNat]'hil) := List.getElem?_eq_getElem hil
        have hto := HTok.out _ (List.getElem_mem hil)
        obtain ⟨t, htt⟩ : ∃ t, t = ts[i'.toNat]'hil := ⟨_, rfl⟩
        rw [← htt] at ht hto
        obtain ⟨a0, a1, a2, a3⟩ := hL2.2 _ _ ht
        obtain ⟨e0, e1, e2, e3⟩ := hL3.2 _ _ ht
        have lb2 := hL2.1
        have lb3 := hL3.1
        obtain ⟨tk, htk⟩ : ∃ z : Int, z = (t.k : Int) := ⟨_, rfl⟩
        obtain ⟨tl, htl⟩ : ∃ z : Int, z = (t.ln : Int) := ⟨_, rfl⟩
        obtain ⟨tc, htc⟩ : ∃ z : Int, z = (t.cl : Int) := ⟨_, rfl⟩
        obtain ⟨T, hT⟩ : ∃ T : ByteArray, T = ⟨t.t.toArray⟩ := ⟨_, rfl⟩
        rw [← htk] at a0 e0
        rw [← hT] at a1 e1
        rw [← htl] at a2 e2
        rw [← htc] at a3 e3
        have cT : ∀ W, K W → Calls Try.prog 9 #[.string T] W fun e w' => e = .returned (.int .i64 tk) ∧ Below W.heap.size W w' := fun W kk => by
          have := D.of T W kk (by rw [hT, ba_size]; omega)
          rw [show T.data.toList = t.t by rw [hT], hto.2, ← htk] at this
          exact this
        clear htt ht h2 h3 hto htk htl htc hT cO cO' cL cL' cA
        go_wp2
        obtain ⟨w1, hw1⟩ : ∃ w1, w1 = wr.alloc (.cells #[.int .i64 tk, .string T, .int .i64 tl, .int .i64 tc] 36) := ⟨_, rfl⟩
        rw [← hw1]
        have bw : Below wr.heap.size wr w1 := by rw [hw1]; exact (Below.refl _ _).alloc (Nat.le_refl _) _
        have hB1 := below_on hB bw
        have kw1 := D.keep k hB1
        have k0 := cell_regrown ((bw.cell (p := ⟨b3, _, none⟩) lb3).trans e0)
        have k1 := cell_regrown ((bw.cell (p := ⟨b3, _, none⟩) lb3).trans e1)
        have k2 := cell_regrown ((bw.cell (p := ⟨b3, _, none⟩) lb3).trans e2)
        have k3 := cell_regrown ((bw.cell (p := ⟨b3, _, none⟩) lb3).trans e3)
        have j0 := cell_regrown (show w1.cell? ⟨wr.heap.size, 0, none⟩ = some (.int .i64 tk) by rw [hw1, World.cell?_alloc_new]; rfl)
        have j1 := cell_regrown (show w1.cell? ⟨wr.heap.size, 1, none⟩ = some (.string T) by rw [hw1, World.cell?_alloc_new]; rfl)
        have j2 := cell_regrown (show w1.cell? ⟨wr.heap.size, 2, none⟩ = some (.int .i64 tl) by rw [hw1, World.cell?_alloc_new]; rfl)
        have j3 := cell_regrown (show w1.cell? ⟨wr.heap.size, 3, none⟩ = some (.int .i64 tc) by rw [hw1, World.cell?_alloc_new]; rfl)
        have qO := fun x y => Calls.regrown_of (cT (grow (redrawn w1 x) y) (D.keep kw1 (below_regrown w1 x y)))
        clear a0 a1 a2 a3 e0 e1 e2 e3 cT hw1 kw1
        have fin : ∀ dq osq, Hid (Form (grow (redrawn w1 dq) osq) (some ⟨b, o, none⟩) ts ∧ Form (grow (redrawn w1 dq) osq) (some ⟨b3, o3, none⟩) ts ∧ Below w.heap.size w (grow (redrawn w1 dq) osq)) := fun dq osq => hid
          ⟨fun _ => ⟨b, o, rfl, (hL2.on bw).on (below_regrown w1 dq osq)⟩, fun _ => ⟨b3, o3, rfl, (hL3.on bw).on (below_regrown w1 dq osq)⟩, below_on hB1 (below_regrown w1 dq osq)⟩
        clear hL2 hL3 hB bw hB1 hst
        by_cases hlast : i' + 1 < ts.length
        all_goals
          refine wp_region_quiet_below (by kernel_rfl) (by kernel_rfl) ?_
          repeat (go_big_quiet_step (first | (go_at_call 9; exact qO _ _)))
          refine wpQuiet_nil ?_
          intro _ hw'
          obtain ⟨⟨dq, osq⟩, hw''⟩ := hw'
          subst hw''
          have hfin := fin dq osq
          clear fin
          go_wp2
          go_roundw
          case rel => exact ⟨i' + 1, rfl, by omega, by omega, hfin⟩
          case measure => simp [intOf]; omega
      · obtain rfl : i' = ts.length := by omega
        go_wp2
        go_ret
        exact ⟨rfl, hst.out.2.2⟩
end Go.Proofs.Ytcigholifpmdjaa.L05
