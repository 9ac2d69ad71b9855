/- What the document's answers for layer 5 (poundageref05) come to: Lex. -/
import Derived.Test.YtcigholifpmdjaaRef5b
import Derived.Test.YtcigholifpmdjaaLexR
namespace Go.Proofs.Ytcigholifpmdjaa.R5
open Go.RowKit P R4

/-- Tokens as the program holds them: four cells each. -/
def tokCells (ts : List Tok) : List Value := ts.flatMap fun t => [.int .i64 t.k, .string ⟨t.t.toArray⟩, .int .i64 t.ln, .int .i64 t.cl]
theorem tokCells_snoc (ts : List Tok) (t : Tok) : tokCells (ts ++ [t]) = tokCells ts ++ [.int .i64 t.k, .string ⟨t.t.toArray⟩, .int .i64 t.ln, .int .i64 t.cl] := by unfold tokCells; simp
/-- What is owned stays owned behind calls that leave old blocks alone. -/
theorem owns_below {w w1 : World} {base : Nat} {e : TypeId} {size n : Nat} {v : Value} {xs : List Value} (h : w.ownsRow base e size v n xs) (b : Below w.heap.size w w1) : w1.ownsRow base e size v n xs := by
  refine ⟨h.1, ?_⟩
  rcases h.2 with h2 | ⟨g, cap, cur, h1, h2, h3, h4⟩
  · exact .inl h2
  · have hg : g < w.heap.size := by
      rcases Nat.lt_or_ge g w.heap.size with k | k
      · exact k
      · rw [Array.getElem?_eq_none k] at h3; cases h3
    exact .inr ⟨g, cap, cur, h1, h2, by rw [b.block g hg]; exact h3, h4⟩
theorem info_tok : (Try.prog.info? 38).map (fun i => (i.zero, i.size, i.bytes)) = some (some (.agg #[.int .i64 0, .string ⟨#[]⟩, .int .i64 0, .int .i64 0]), 4, 40) := by kernel_rfl
theorem und_toks : Try.prog.underlying 29 = some (.slice 38) := by kernel_rfl

set_option maxHeartbeats 8000000 in
set_option maxRecDepth 100000 in
theorem lex_any (s : ByteArray) (w : World) : Calls Try.prog 8 #[.string s] w fun e w' => ∃ v, e = .returned (.tuple #[v, .int .i64 (lexed s.data.toList).2.1, .int .i64 (lexed s.data.toList).2.2.1, .int .i64 (lexed s.data.toList).2.2.2]) ∧
    w'.ownsRow w.heap.size 38 4 v (lexed s.data.toList).1.length (tokCells (lexed s.data.toList).1) ∧ Below w.heap.size w w' := by
  obtain ⟨i0, hi, hz0, hz1, hz2⟩ := info_parts info_tok
  have hbyte := byte_at s
  obtain ⟨l, hl⟩ : ∃ l, l = s.data.toList := ⟨_, rfl⟩
  have hz : l.length = s.size := by rw [hl]; simp
  rw [← hl]
  rw [← hl] at hbyte
  by_cases hbig : 8192 < s.size
  · have hG := hid (lexed_great (show 8192 < l.length by omega))
    clear hbyte hl
    go_enter Try.func8, Try.ntmps8
    go_wp2
    refine bodyPost_ret (v := .tuple #[.slice none 0 0, .int .i64 6, .int .i64 1, .int .i64 1]) (by simp [results, Try.results8, go_sem]) rfl ?_
    rw [hG.out]
    exact ⟨_, rfl, World.ownsRow_nil _ _ _ _, Below.refl _ _⟩
  · have HY := hid hbyte
    clear hbyte
    go_enter Try.func8, Try.ntmps8
    go_wp2
    go_loopw [6, 7, 8, 9] (fun v ln cl i wr => ∃ (L C i' : Int) (acc : List Tok), ln = .int .i64 L ∧ cl = .int .i64 C ∧ i = .int .i64 i' ∧ 0 ≤ i' ∧ i' ≤ s.size ∧ 1 ≤ L ∧ L ≤ i' + 1 ∧ 1 ≤ C ∧ C ≤ i' + 1 ∧
      Hid (Sofar l i'.toNat L.toNat C.toNat acc ∧ wr.ownsRow w.heap.size 38 4 v acc.length (tokCells acc) ∧ Below w.heap.size w wr)) (fun _ _ _ i _ => ((s.size : Int) - intOf i).toNat)
    case atStart => exact ⟨1, 1, 0, [], rfl, rfl, rfl, by omega, by omega, by omega, by omega, by omega, by omega, hid ⟨read_start l, World.ownsRow_nil _ _ _ _, Below.refl _ _⟩⟩
    case round =>
      obtain ⟨L, C, i', acc, rfl, rfl, rfl, i0', i1, L0, L1, C0, C1, hst⟩ := hrel
      by_cases hlt : i' < s.size
      · have hb := HY.out i' i0' hlt
        have hil : i'.toNat < l.length := by omega
        obtain ⟨c, hc⟩ : ∃ c, c = l.getD i'.toNat 0 := ⟨_, rfl⟩
        simp only [← hc] at hb
        have hx : ∀ n : UInt8, ((c.toNat : Int) = (n.toNat : Int) ↔ c = n) := fun n => ⟨fun h => UInt8.toNat_inj.1 (by omega), fun h => by rw [h]⟩
        have x35 := hx 35
        have x10 := hx 10
        have x32 := hx 32
        have x9 := hx 9
        have x13 := hx 13
        have hlc := ltI_of c
        obtain ⟨x, hxx⟩ : ∃ x : Int, x = (c.toNat : Int) := ⟨_, rfl⟩
        rw [← hxx] at x35 x10 x32 x9 x13 hlc
        simp only [← hxx] at hb
        simp only [show ((35 : UInt8).toNat : Int) = 35 from rfl, show ((10 : UInt8).toNat : Int) = 10 from rfl, show ((32 : UInt8).toNat : Int) = 32 from rfl, show ((9 : UInt8).toNat : Int) = 9 from rfl, show ((13 : UInt8).toNat : Int) = 13 from rfl] at x35 x10 x32 x9 x13
        clear hx hxx
        have HC := hid hc
        clear hc
        obtain ⟨hR, hO, hB⟩ := hst.out
        by_cases n35 : x = 35
        · -- a note
          subst n35
          have c35 := hid (x35.1 rfl)
          clear x35 x10 x32 x9 x13 hlc hR hO hB
          go_wp2
          go_loop [11] (fun k => ∃ k' : Int, k = .int .i64 k' ∧ i' + 1 ≤ k' ∧ k' ≤ s.size ∧ Hid (∀ j : Nat, i'.toNat + 1 ≤ j → j < k'.toNat → l.getD j 0 ≠ 10)) (fun k => ((s.size : Int) - intOf k).toNat)
          case atStart => exact ⟨i' + 1, rfl, by omega, by omega, hid (fun j a b => by omega)⟩
          case round =>
            obtain ⟨k', rfl, k0, k1, hk⟩ := hrel
            by_cases hkl : k' < s.size
            · have hbk := HY.out k' (by omega) hkl
              obtain ⟨d, hd⟩ : ∃ d, d = l.getD k'.toNat 0 := ⟨_, rfl⟩
              simp only [← hd] at hbk
              obtain ⟨y, hy⟩ : ∃ y : Int, y = (d.toNat : Int) := ⟨_, rfl⟩
              have hd10 : y = 10 ↔ d = 10 := ⟨fun h => UInt8.toNat_inj.1 (by show _ = 10; omega), fun h => by rw [hy, h]; rfl⟩
              simp only [← hy] at hbk
              clear hy
              by_cases hy10 : y = 10
              · have hp := hid (piece_note (k := k'.toNat) hil (by omega) (by omega) (HC.out.symm.trans c35.out) hk.out (fun _ => hd.symm.trans (hd10.1 hy10)))
                have b1 : (y != 10) = false := by rw [hy10]; rfl
                have hR2 := hid (hst.out.1.skip (k := k'.toNat) hil (by rw [← HC.out, c35.out]; decide) (by rw [← HC.out, c35.out]; decide) (by omega) hp.out)
                clear hd hd10 hy10 hk hp
                go_wp2
                go_roundw
                case rel => exact ⟨L, C + (k' - i'), k', acc, rfl, vi (by omega), rfl, by omega, by omega, by omega, by omega, by omega, by omega, hid ⟨by
                  rw [show (C + (k' - i')).toNat = C.toNat + (k'.toNat - i'.toNat) by omega]; exact hR2.out, hst.out.2⟩⟩
                case measure => simp [intOf]; omega
              · have b1 : (y != 10) = true := bne_iff_ne.2 hy10
                have hk2 : Hid (∀ j : Nat, i'.toNat + 1 ≤ j → j < (k' + 1).toNat → l.getD j 0 ≠ 10) := hid (fun j a b => by
                  rcases Nat.lt_or_ge j k'.toNat with h | h
                  · exact hk.out j a h
                  · rw [show j = k'.toNat by omega, ← hd]; exact fun h => hy10 (hd10.2 h))
                clear hd hd10 hy10 hk
                go_wp2
                go_round
                case rel => exact ⟨k' + 1, rfl, by omega, by omega, hk2⟩
                case measure => simp [intOf]; omega
            · obtain rfl : k' = s.size := by omega
              have hp := hid (piece_note (k := (s.size : Int).toNat) hil (by omega) (by omega) (HC.out.symm.trans c35.out) hk.out (fun h => by omega))
              have hR2 := hid (hst.out.1.skip (k := (s.size : Int).toNat) hil (by rw [← HC.out, c35.out]; decide) (by rw [← HC.out, c35.out]; decide) (by omega) hp.out)
              clear hk hp
              go_wp2
              go_roundw
              case rel => exact ⟨L, C + (s.size - i'), s.size, acc, rfl, vi (by omega), rfl, by omega, by omega, by omega, by omega, by omega, by omega, hid ⟨by
                rw [show (C + ((s.size : Int) - i')).toNat = C.toNat + ((s.size : Int).toNat - i'.toNat) by omega]; exact hR2.out, hst.out.2⟩⟩
              case measure => simp [intOf]; omega
        · by_cases n10 : x = 10
          · subst n10
            have hR2 := hid (hR.line hil (HC.out.symm.trans (x10.1 rfl)))
            clear x35 x10 x32 x9 x13 hlc hR hO hB n35
            go_wp2
            go_roundw
            case rel => exact ⟨L + 1, 1, i' + 1, acc, rfl, rfl, rfl, by omega, by omega, by omega, by omega, by omega, by omega, hid ⟨by
              rw [show (L + 1).toNat = L.toNat + 1 by omega, show (i' + 1).toNat = i'.toNat + 1 by omega]; exact hR2.out, hst.out.2⟩⟩
            case measure => simp [intOf]; omega
          · by_cases hg : x = 32 ∨ x = 9 ∨ x = 13
            · have hcc : c = 32 ∨ c = 9 ∨ c = 13 := by
                rcases hg with h | h | h
                · exact .inl (x32.1 h)
                · exact .inr (.inl (x9.1 h))
                · exact .inr (.inr (x13.1 h))
              have hgap : isGap c = true ∧ c ≠ 10 ∧ skips c = true := by
                rcases hcc with h | h | h <;> rw [h] <;> decide
              have hR2 := hid (hR.skip (k := i'.toNat + 1) hil (by rw [← HC.out]; exact hgap.2.2) (by rw [← HC.out]; exact hgap.2.1) (by omega) ((piece_gap hil (by rw [← HC.out]; exact hgap.1)).trans (by omega)))
              clear x35 x10 x32 x9 x13 hlc hR hO hB hcc hgap n35 n10
              have hend : Hid (Sofar l (i' + 1).toNat L.toNat (C + 1).toNat acc) := hid (by
                have := hR2.out
                rw [show (i' + 1).toNat = i'.toNat + 1 by omega, show (C + 1).toNat = C.toNat + (i'.toNat + 1 - i'.toNat) by omega]; exact this)
              clear hR2
              rcases hg with h | h | h
              all_goals
                subst h
                go_wp2
                go_roundw
                case rel => exact ⟨L, C + 1, i' + 1, acc, rfl, vi (by omega), rfl, by omega, by omega, by omega, by omega, by omega, by omega, hid ⟨hend.out, hst.out.2⟩⟩
                case measure => simp [intOf]; omega
            · have n32 : x ≠ 32 := fun h => hg (.inl h)
              have n9 : x ≠ 9 := fun h => hg (.inr (.inl h))
              have n13 : x ≠ 13 := fun h => hg (.inr (.inr h))
              have hsk : skips (l.getD i'.toNat 0) = false := by
                rw [← HC.out]
                unfold skips isGap
                rw [beq_eq_false_iff_ne.2 (fun h => n35 (x35.2 h)), beq_eq_false_iff_ne.2 (fun h => n10 (x10.2 h)), beq_eq_false_iff_ne.2 (fun h => n32 (x32.2 h)), beq_eq_false_iff_ne.2 (fun h => n9 (x9.2 h)), beq_eq_false_iff_ne.2 (fun h => n13 (x13.2 h))]
                rfl
              have HS := hid hsk
              have b35 : (x == 35) = false := beq_eq_false_iff_ne.2 n35
              have b10 : (x == 10) = false := beq_eq_false_iff_ne.2 n10
              have b32 : (x != 32) = true := bne_iff_ne.2 n32
              have b9 : (x != 9) = true := bne_iff_ne.2 n9
              have bb : (x != 10) = true := bne_iff_ne.2 n10
              have b13 : (x != 13) = true := bne_iff_ne.2 n13
              clear x35 x10 x32 x9 x13 hR hO hB n35 n10 n32 n9 n13 hg hsk
              go_wp2
              go_loop [11] (fun k => ∃ k' : Int, k = .int .i64 k' ∧ i' + 1 ≤ k' ∧ k' ≤ s.size ∧ Hid ((∀ j : Nat, i'.toNat + 1 ≤ j → j < k'.toNat → isLt (l.getD j 0) = true) ∧ (isLt c = false → k' = i' + 1))) (fun k => ((s.size : Int) - intOf k).toNat)
              case atStart => exact ⟨i' + 1, rfl, by omega, by omega, hid ⟨fun j a b => by omega, fun _ => rfl⟩⟩
              case round =>
                obtain ⟨k', rfl, k0, k1, hk⟩ := hrel
                have hbk : k' < s.size → _ := fun h => HY.out k' (by omega) h
                obtain ⟨d, hd⟩ : ∃ d, d = l.getD k'.toNat 0 := ⟨_, rfl⟩
                simp only [← hd] at hbk
                have hlk := ltI_of d
                obtain ⟨y, hy⟩ : ∃ y : Int, y = (d.toNat : Int) := ⟨_, rfl⟩
                rw [← hy] at hlk
                simp only [← hy] at hbk
                clear hy
                by_cases hgo : ltI x = true ∧ k' < s.size ∧ ltI y = true
                · obtain ⟨g1, g2, g3⟩ := hgo
                  have hb2 := hbk g2
                  have hk2 : Hid ((∀ j : Nat, i'.toNat + 1 ≤ j → j < (k' + 1).toNat → isLt (l.getD j 0) = true) ∧ (isLt c = false → k' + 1 = i' + 1)) := hid ⟨fun j a b => by
                    rcases Nat.lt_or_ge j k'.toNat with h | h
                    · exact hk.out.1 j a h
                    · rw [show j = k'.toNat by omega, ← hd, ← hlk]; exact g3, fun h => by rw [← hlc, g1] at h; cases h⟩
                  clear hbk hd hlk hlc hk
                  go_wp2_with (go_at_call 13; refine (letter_any _ _).mono ?_; rintro e w' ⟨rfl, h'⟩; rw [h'])
                  go_round
                  case rel => exact ⟨k' + 1, rfl, by omega, by omega, hk2⟩
                  case measure => simp [intOf]; omega
                · have hex : ltI x = false ∨ (ltI x = true ∧ (s.size : Int) ≤ k') ∨ (ltI x = true ∧ k' < s.size ∧ ltI y = false) := by
                    cases h1 : ltI x
                    · exact .inl rfl
                    · by_cases h2 : k' < s.size
                      · cases h3 : ltI y
                        · exact .inr (.inr ⟨rfl, h2, rfl⟩)
                        · exact absurd ⟨h1, h2, h3⟩ hgo
                      · exact .inr (.inl ⟨rfl, by omega⟩)
                  have hp := hid (piece_row (k := k'.toNat) hil (by omega) (by omega) HS.out hk.out.1 (fun a b => by
                    rw [← HC.out, ← hlc] at a
                    rw [← hd, ← hlk]
                    rcases hex with h | ⟨_, h⟩ | ⟨_, _, h⟩
                    · rw [h] at a; cases a
                    · omega
                    · exact h) (fun a => by have := hk.out.2 (by rw [HC.out]; exact a); omega))
                  clear hgo hk hd hlk hlc
                  obtain ⟨t, ht⟩ : ∃ t, t = (l.drop i'.toNat).take (k'.toNat - i'.toNat) := ⟨_, rfl⟩
                  have hex' : (s.extract i'.toNat k'.toNat).data.toList = t := by rw [Lib.extract_data, ← hl, ht]
                  have hsl := fun W => run_slice_string (P := Try.prog) (w := W) 9 s .i64 .i64 i' k' Try.underlying9 i0' (by omega) k1
                  have hS0 : (s.extract i'.toNat k'.toNat).size ≤ 1000000 := by rw [ByteArray.size_extract]; omega
                  obtain ⟨S, hSS⟩ : ∃ S, S = s.extract i'.toNat k'.toNat := ⟨_, rfl⟩
                  simp only [← hSS] at hsl
                  rw [← hSS] at hex' hS0
                  have cO := fun W => of_any S W hS0
                  rw [hex'] at cO
                  obtain ⟨K, hK⟩ : ∃ K : Int, K = (kd t : Int) := ⟨_, rfl⟩
                  simp only [← hK] at cO
                  have hS : Hid (S = ⟨t.toArray⟩) := hid (by rw [hSS, Lib.extract_eq, ← hl, ht])
                  clear hSS hS0
                  by_cases hK0 : K = 0
                  · subst hK0
                    have hE := hid (lexed_bad (by omega) (hst.out.1.bad (k := k'.toNat) hil HS.out hp.out (by rw [← ht]; omega)))
                    have hBo := hid hst.out.2.2
                    clear hex' hK ht hp hst
                    rcases hex with h1 | ⟨h1, h2⟩ | ⟨h1, h2, h3⟩
                    all_goals
                      try have hb2 := hbk h2
                      clear hbk
                      go_wp2_with (first
                        | (go_at_call 13; refine (letter_any _ _).mono ?_; rintro e w' ⟨rfl, h'⟩; rw [h'])
                        | (go_at_call 10; refine (cO _).mono ?_; rintro e w2 ⟨rfl, b2⟩))
                      refine bodyPost_ret (v := .tuple #[.slice none 0 0, .int .i64 3, .int .i64 L, .int .i64 C]) (by simp [results, Try.results8, go_sem]) rfl ?_
                      rw [hE.out]
                      refine ⟨.slice none 0 0, ?_, World.ownsRow_nil _ _ _ _, below_on hBo.out b2⟩
                      show Ending.returned (.tuple #[.slice none 0 0, .int .i64 3, .int .i64 L, .int .i64 C]) = Ending.returned (.tuple #[.slice none 0 0, .int .i64 3, .int .i64 (L.toNat : Int), .int .i64 (C.toNat : Int)])
                      rw [Int.toNat_of_nonneg (by omega), Int.toNat_of_nonneg (by omega)]
                  · have hTk := hid (hst.out.1.tok (k := k'.toNat) hil HS.out (by omega) hp.out (by rw [← ht]; omega))
                    have hcnt := hst.out.1.count
                    have hn : acc.length + 1 ≤ 8194 := by omega
                    have hO := hst.out.2.1
                    have hB := hst.out.2.2
                    have hbase := hB.size
                    have bK : (K == 0) = false := beq_eq_false_iff_ne.2 hK0
                    have HK := hid hK
                    have HT := hid ht
                    clear hex' hK ht hp hst hcnt hK0
                    have HO := hid hO
                    have HB := hid hB
                    clear hO hB
                    rcases hex with h1 | ⟨h1, h2⟩ | ⟨h1, h2, h3⟩
                    all_goals
                      try have hb2 := hbk h2
                      clear hbk
                      go_wp2_with (first
                        | (go_at_call 13; refine (letter_any _ _).mono ?_; rintro e w' ⟨rfl, h'⟩; rw [h'])
                        | (go_at_call 10; refine (cO _).mono ?_; rintro e w2 ⟨rfl, b2⟩; have HO2 := owns_below HO.out b2; have b2s := b2.size)
                        | (at_builtin; refine wpList_append_own _ rfl _ _ 29 rfl w.heap.size 38 i0 (.agg #[.int .i64 0, .string ⟨#[]⟩, .int .i64 0, .int .i64 0]) 4 40 und_toks hi hz0 hz1 hz2 rfl (by decide) _ _ _ rfl (HO2.alloc _) ⟨w2.heap.size, 0, none⟩ 1 1 [.int .i64 K, .string S, .int .i64 L, .int .i64 C] rfl rfl (by
                            intro j u hj
                            match j, hj with
                            | 0, hj => simp at hj; subst hj; simp [Addr.add]
                            | 1, hj => simp at hj; subst hj; simp [Addr.add]
                            | 2, hj => simp at hj; subst hj; simp [Addr.add]
                            | 3, hj => simp at hj; subst hj; simp [Addr.add]) (by simp [Value.oneCell']) (by unfold maxLen; omega) (by omega) (by simp; omega) ?_))
                      intro v' w1 hown hgrow _
                      go_wp2
                      go_roundw
                      case rel => exact ⟨L, C + (k' - i'), k', _, rfl, vi (by omega), rfl, by omega, by omega, by omega, by omega, by omega, by omega, hid ⟨by
                        rw [show (C + (k' - i')).toNat = C.toNat + (k'.toNat - i'.toNat) by omega]; exact hTk.out, by
                        rw [tokCells_snoc, List.length_append, ← HT.out, ← hS.out]
                        show w1.ownsRow _ _ _ _ _ (_ ++ [.int .i64 (kd t : Int), .string S, .int .i64 (L.toNat : Int), .int .i64 (C.toNat : Int)])
                        rw [Int.toNat_of_nonneg (by omega), Int.toNat_of_nonneg (by omega), ← HK.out]
                        exact hown, ((below_on HB.out b2).alloc (by omega) _).grown hgrow (by simp; omega) (fun k hk => (HO.out.lt k hk).1)⟩⟩
                      case measure => simp [intOf]; omega
      · obtain rfl : i' = s.size := by omega
        obtain ⟨hR, hO, hB⟩ := hst.out
        have hE := hid (lexed_ok (by omega) (hR.stop (by omega)))
        have hcnt := hR.count
        have hn : acc.length + 1 ≤ 8194 := by omega
        clear hcnt
        have hsz := hB.size
        go_wp2_with (at_builtin; refine wpList_append_own _ rfl _ _ 29 rfl w.heap.size 38 i0 (.agg #[.int .i64 0, .string ⟨#[]⟩, .int .i64 0, .int .i64 0]) 4 40 und_toks hi hz0 hz1 hz2 rfl (by decide) _ _ _ rfl (hO.alloc _) ⟨wr.heap.size, 0, none⟩ 1 1 [.int .i64 0, .string ⟨#[]⟩, .int .i64 L, .int .i64 C] rfl rfl ?c1 ?c2 ?c3 ?c4 ?c5 ?_)
        case c2 => exact ⟨rfl, rfl, rfl, rfl⟩
        case c3 => unfold maxLen; omega
        case c4 => omega
        case c5 => omega
        intro v' w1 hown hgrow _
        go_wp2
        refine bodyPost_ret (v := .tuple #[v', .int .i64 0, .int .i64 0, .int .i64 0]) (by simp [results, Try.results8, go_sem]) rfl ?_
        rw [hE.out]
        refine ⟨v', rfl, ?_, (hB.alloc hB.size _).grown hgrow (by simp; omega) (fun k hk => (hO.lt k hk).1)⟩
        rw [tokCells_snoc, List.length_append]
        show w1.ownsRow _ _ _ _ _ (_ ++ [.int .i64 0, .string ⟨#[]⟩, .int .i64 (L.toNat : Int), .int .i64 (C.toNat : Int)])
        rw [Int.toNat_of_nonneg (by omega), Int.toNat_of_nonneg (by omega)]
        exact hown
end Go.Proofs.Ytcigholifpmdjaa.R5
