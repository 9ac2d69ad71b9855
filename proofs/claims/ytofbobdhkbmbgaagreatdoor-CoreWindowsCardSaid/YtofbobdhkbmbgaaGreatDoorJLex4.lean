/- What package lex does: Lex. -/
import Derived.Test.YtofbobdhkbmbgaaGreatDoorJL05
import Derived.Deep.DrawnRows
set_option maxRecDepth 100000
set_option maxHeartbeats 4000000
namespace Go.Proofs.YtofbobdhkbmbgaaGreatDoor
namespace Le
open Go.RowKit P R4 R5 L05
theorem ends_pos {l:List UInt8} {i:Nat} (h:i<l.length):i+1≤ends l i∧ends l i≤l.length:=by
 have h1:=piece_le (l.drop i);rw [List.length_drop] at h1;have h2:=piece_pos (l.getD i 0) (l.drop (i+1));rw [←drop_cons0 h] at h2;unfold ends;omega
theorem ends_piece {l:List UInt8} {i k:Nat} (h:ends l i=k):piece (l.drop i)=k-i:=by unfold ends at h;omega
theorem info_tk:(Tryz.prog.info? 154).map (fun i=>(i.zero,i.size,i.bytes))=some (some (.agg #[.int .i64 0,.string ⟨#[]⟩,.int .i64 0,.int .i64 0]),4,40):=by kernel_rfl
theorem und_tks:Tryz.prog.underlying 106=some (.slice 154):=by kernel_rfl
theorem lex_on {w W w':World} (h:Below w.heap.size w W) (hb:Below W.heap.size W w'):Below w.heap.size w w':=h.trans (hb.mono h.size)
theorem alloc_on {w W:World} (h:Below w.heap.size w W) (o:Obj):Below w.heap.size w (W.alloc o):=h.alloc h.size o
structure Flt0 (k:Nat) (W:World):Prop where
 c0:W.cell? ⟨k,0,none⟩=some (.int .i64 0)
 c1:W.cell? ⟨k,1,none⟩=some (.int .i64 0)
 c2:W.cell? ⟨k,2,none⟩=some (.int .i64 0)
 f0:W.frozen? ⟨k,0,none⟩=false
 f1:W.frozen? ⟨k,1,none⟩=false
 f2:W.frozen? ⟨k,2,none⟩=false
theorem flt0 {w W0 W:World} (hW:W0=w.alloc (.cells #[.int .i64 0,.int .i64 0,.int .i64 0] 30)) (h:Below W0.heap.size W0 W):Flt0 w.heap.size W:=by
 have hs:w.heap.size<W0.heap.size:=by rw [hW];simp
 have hc:∀o,W.cell? ⟨w.heap.size,o,none⟩=W0.cell? ⟨w.heap.size,o,none⟩:=fun o=>h.cell hs;have hf:∀o,W.frozen? ⟨w.heap.size,o,none⟩=W0.frozen? ⟨w.heap.size,o,none⟩:=fun o=>h.frozen hs;constructor
 all_goals first|rw [hc]|rw [hf]
 all_goals rw [hW]
 all_goals go_simp
structure Tk0 (k:Nat) (W:World):Prop where
 c0:W.cell? ⟨k,0,none⟩=some (.int .i64 0)
 c1:W.cell? ⟨k,1,none⟩=some (.string ⟨#[]⟩)
 c2:W.cell? ⟨k,2,none⟩=some (.int .i64 0)
 c3:W.cell? ⟨k,3,none⟩=some (.int .i64 0)
 f0:W.frozen? ⟨k,0,none⟩=false
 f1:W.frozen? ⟨k,1,none⟩=false
 f2:W.frozen? ⟨k,2,none⟩=false
 f3:W.frozen? ⟨k,3,none⟩=false
 lt:k<W.heap.size
theorem Tk0.later {w W:World} {k:Nat} (h:Below (w.alloc (.cells #[.int .i64 0,.string ⟨#[]⟩,.int .i64 0,.int .i64 0] 154)).heap.size (w.alloc (.cells #[.int .i64 0,.string ⟨#[]⟩,.int .i64 0,.int .i64 0] 154)) W) (hk:w.heap.size=k):Tk0 k W:=by
 subst hk;have hs:w.heap.size<(w.alloc (.cells #[.int .i64 0,.string ⟨#[]⟩,.int .i64 0,.int .i64 0] 154)).heap.size:=by simp
 have hc:=fun o=>h.cell (p:=⟨w.heap.size,o,none⟩) hs;have hf:=fun o=>h.frozen (p:=⟨w.heap.size,o,none⟩) hs;constructor
 case lt=>exact Nat.lt_of_lt_of_le hs h.size
 all_goals first|rw [hc]|rw [hf]
 all_goals go_simp
theorem Tk0.later_drew {w W:World} {k:Nat} (h:Below ((w.alloc (.cells #[.int .i64 0,.string ⟨#[]⟩,.int .i64 0,.int .i64 0] 154)).drew).heap.size ((w.alloc (.cells #[.int .i64 0,.string ⟨#[]⟩,.int .i64 0,.int .i64 0] 154)).drew) W) (hk:w.heap.size=k):Tk0 k W:=by
 subst hk;have hs:w.heap.size<((w.alloc (.cells #[.int .i64 0,.string ⟨#[]⟩,.int .i64 0,.int .i64 0] 154)).drew).heap.size:=by simp
 have hc:=fun o=>h.cell (p:=⟨w.heap.size,o,none⟩) hs;have hf:=fun o=>h.frozen (p:=⟨w.heap.size,o,none⟩) hs;constructor
 case lt=>exact Nat.lt_of_lt_of_le hs h.size
 all_goals first|rw [hc]|rw [hf]
 all_goals go_simp
structure Tk (k:Nat) (W:World) (a b c d:Value):Prop where
 lt:k<W.heap.size
 c0:W.cell? ⟨k,0,none⟩=some a
 c1:W.cell? ⟨k,1,none⟩=some b
 c2:W.cell? ⟨k,2,none⟩=some c
 c3:W.cell? ⟨k,3,none⟩=some d
theorem tk_alloc (w2:World) (a b c d:Value) (t:TypeId):∃w3 tb,w2.alloc (.cells #[a,b,c,d] t)=w3∧w2.heap.size=tb∧Tk tb w3 a b c d:=by
 refine ⟨_,_,rfl,rfl,?_⟩;constructor
 case lt=>simp
 all_goals go_simp
theorem tk_set (w2:World) (a b c d:Value) {k:Nat} (h:Tk0 k w2):∃w3,(((w2.setCell ⟨k,0,none⟩ a).setCell ⟨k,1,none⟩ b).setCell ⟨k,2,none⟩ c).setCell ⟨k,3,none⟩ d=w3∧Tk k w3 a b c d:=by
 obtain ⟨k0,k1,k2,k3,l0,l1,l2,l3,l4⟩:=h;refine ⟨_,rfl,?_⟩;constructor
 case lt=>simpa using l4
 all_goals go_simp
theorem owns_set {w:World} {base:Nat} {e:TypeId} {size n:Nat} {v:Value} {xs:List Value} (h:w.ownsRow base e size v n xs) {p:Addr} (hp:p.block<base) (u:Value):(w.setCell p u).ownsRow base e size v n xs:=by
 refine ⟨h.1,?_⟩;rcases h.2 with h2|⟨g,cap,cur,h1,h2,h3,h4⟩
 ·exact .inl h2
 ·exact .inr ⟨g,cap,cur,h1,h2,by rw [Below.heap_setCell _ _ _ _ (by omega)];exact h3,h4⟩
attribute [local go_sem ↓] Go.wp_at_zero Go.wp_at_succ
theorem lex_walk (s:ByteArray) (w:World) (hk:Dc.Mx w):Calls Tryz.prog 53 #[.string s] w fun e w'=>∃v,e=.returned (.tuple #[v,flt (lexed s.data.toList).2])∧HoldsC w' v (lexed s.data.toList).1∧Below w.heap.size w w':=by
 obtain ⟨i0,hi,hz0,hz1,hz2⟩:=info_parts info_tk;have hbyte:=R4.byte_at s;obtain ⟨l,hl⟩:∃l,l=s.data.toList:=⟨_,rfl⟩;have hz:l.length=s.size:=by rw [hl];simp
 have cEnd:=fun (i:Int) (W:World) (hs:s.size≤1000000)=>end_any s i W hs;rw [←hl] at hbyte cEnd ⊢;by_cases hbig:8192<s.size
 ·have hG:=hid (lexed_great (show 8192<l.length by omega));clear hbyte hl cEnd;go_enter Tryz.func53,Tryz.ntmps53
  go_wp2;refine bodyPost_ret (v:=.tuple #[.slice none 0 0,.agg #[.int .i64 6,.int .i64 1,.int .i64 1]]) (by simp [results,Tryz.results53,go_sem, *]) rfl ?_;rw [hG.out];exact ⟨_,rfl,holdsC_nil _,(Below.refl _ _).alloc (Nat.le_refl _) _⟩
 ·have HY:=hid hbyte;have HE:=hid (fun (i:Int) (W:World)=>cEnd i W (by omega));have HL:=hid hl;clear hbyte hl cEnd;go_enter Tryz.func53,Tryz.ntmps53
  go_wp2;obtain ⟨W0,hW0⟩:∃W0,W0=w.alloc (.cells #[.int .i64 0,.int .i64 0,.int .i64 0] 30):=⟨_,rfl⟩;rw [←hW0];have HW:=hid hW0;have hmx:Hid (Dc.Mx W0):=hid (hk.later (by rw [hW0];exact (Below.refl _ _).alloc (Nat.le_refl _) _));clear hW0 hk
  go_loopw [4,5,6,7,16] (fun v ln bg dn i wr=>∃(L B D i':Int) (acc:List Tok),ln=.int .i64 L∧bg=.int .i64 B∧dn=.int .i64 D∧i=.int .i64 i'∧0≤i'∧i'≤D∧D≤s.size∧1≤L∧L≤D+1∧0≤B∧B≤D∧
   Hid (Sofar l D.toNat L.toNat (D-B+1).toNat acc∧wr.ownsRow W0.heap.size 154 4 v acc.length (tokCells acc)∧Below W0.heap.size W0 wr)) (fun _ _ _ _ i _=>((s.size:Int)-intOf i).toNat)
  case atStart=>exact ⟨1,0,0,0,[],rfl,rfl,rfl,rfl,by omega,by omega,by omega,by omega,by omega,by omega,by omega,hid ⟨read_start l,World.ownsRow_nil _ _ _ _,Below.refl _ _⟩⟩
  case round=>
   obtain ⟨L,B,D,i',acc,rfl,rfl,rfl,rfl,i0',i1,D1,L0,L1,B0,B1,hst⟩:=hrel;by_cases hlt:i'<s.size
   ·by_cases hsk:i'<D
    ·go_wp2;go_roundw
     case rel=>exact ⟨L,B,D,i'+1,acc,rfl,rfl,rfl,rfl,by omega,by omega,by omega,by omega,by omega,by omega,by omega,hst⟩
     case measure=>simp [intOf];omega
    ·obtain rfl:i'=D:=by omega
     have hb:=HY.out i' i0' hlt;have hil:i'.toNat<l.length:=by omega
     have cE:=fun W=>HE.out i' W i0' hlt;have hep:=ends_pos hil;obtain ⟨E,hE⟩:∃E:Int,E=(ends l i'.toNat:Int):=⟨_,rfl⟩;rw [←hE] at cE;have hpc:=hid (ends_piece (k:=E.toNat) (by omega:ends l i'.toNat=E.toNat));have e0:i'+1≤E:=by omega
     have e1:E≤s.size:=by omega
     clear hep hE;obtain ⟨c,hc⟩:∃c,c=l.getD i'.toNat 0:=⟨_,rfl⟩;simp only [←hc] at hb;have hx:∀n:UInt8,((c.toNat:Int)=(n.toNat:Int)↔c=n):=fun n=>⟨fun h=>UInt8.toNat_inj.1 (by omega),fun h=>by rw [h]⟩;have x35:=hx 35;have x10:=hx 10;have x32:=hx 32;have x9:=hx 9;have x13:=hx 13;obtain ⟨x,hxx⟩:∃x:Int,x=(c.toNat:Int):=⟨_,rfl⟩;rw [←hxx] at x35 x10 x32 x9 x13;simp only [←hxx] at hb;simp only [show ((35:UInt8).toNat:Int)=35 from rfl,show ((10:UInt8).toNat:Int)=10 from rfl,show ((32:UInt8).toNat:Int)=32 from rfl,show ((9:UInt8).toNat:Int)=9 from rfl,show ((13:UInt8).toNat:Int)=13 from rfl] at x35 x10 x32 x9 x13;clear hx hxx;have HC:=hid hc;clear hc;have cB:=fun W=>blank_any x W;by_cases n10:x=10
     ·subst n10;have c10:=x10.1 rfl;have hR2:=hid (hst.out.1.line hil (HC.out.symm.trans c10))
      have hE1:E=i'+1:=by
       have h1:=hpc.out;rw [piece_gap hil (by rw [←HC.out,c10];decide)] at h1;omega
      subst hE1;clear x35 x10 x32 x9 x13 c10 cB hsk;go_wp2_with (go_at_call 100;refine (cE _).mono ?_;rintro e w' ⟨rfl,h'⟩;rw [h'])
      go_roundw
      case rel=>exact ⟨L+1,i'+1,i'+1,i'+1,acc,rfl,rfl,rfl,rfl,by omega,by omega,by omega,by omega,by omega,by omega,by omega,hid ⟨by
       rw [show (L+1).toNat=L.toNat+1 by omega,show (i'+1).toNat=i'.toNat+1 by omega,show (i'+1-(i'+1)+1).toNat=1 by omega];exact hR2.out,hst.out.2⟩⟩
      case measure=>simp [intOf];omega
     ·have b10:(x==10)=false:=beq_eq_false_iff_ne.2 n10;by_cases hg:x=35∨x=32∨x=9∨x=13
      ·have hcc:c=35∨c=32∨c=9∨c=13:=by
        rcases hg with h|h|h|h
        ·exact .inl (x35.1 h)
        ·exact .inr (.inl (x32.1 h))
        ·exact .inr (.inr (.inl (x9.1 h)))
        ·exact .inr (.inr (.inr (x13.1 h)))
       have hgap:c≠10∧skips c=true:=by
        rcases hcc with h|h|h|h<;>rw [h]<;>decide
       have hR2:=hid (hst.out.1.skip (k:=E.toNat) hil (by rw [←HC.out];exact hgap.2) (by rw [←HC.out];exact hgap.1) (by omega) hpc.out);clear x35 x10 x32 x9 x13 hcc hgap n10 b10 hsk;rcases hg with h|h|h|h
       all_goals
        subst h;try simp only [show ((32:Int)==32||((32:Int)==9||(32:Int)==13))=true from rfl,show ((9:Int)==32||((9:Int)==9||(9:Int)==13))=true from rfl,show ((13:Int)==32||((13:Int)==9||(13:Int)==13))=true from rfl] at cB
        go_wp2_with (first
         | (go_at_call 100;refine (cE _).mono ?_;rintro e w' ⟨rfl,h'⟩;rw [h'])
         | (go_at_call 101;refine (cB _).mono ?_;rintro e w' ⟨rfl,h'⟩;rw [h']))
        go_roundw
        case rel=>exact ⟨L,B,E,i'+1,acc,rfl,rfl,rfl,rfl,by omega,by omega,by omega,by omega,by omega,by omega,by omega,hid ⟨by
         rw [show (E-B+1).toNat=(i'-B+1).toNat+(E.toNat-i'.toNat) by omega];exact hR2.out,hst.out.2⟩⟩
        case measure=>simp [intOf];omega
      ·have n35:x≠35:=fun h=>hg (.inl h);have n32:x≠32:=fun h=>hg (.inr (.inl h));have n9:x≠9:=fun h=>hg (.inr (.inr (.inl h)));have n13:x≠13:=fun h=>hg (.inr (.inr (.inr h)))
       have hskp:skips (l.getD i'.toNat 0)=false:=by
        rw [←HC.out];unfold skips isGap;rw [beq_eq_false_iff_ne.2 (fun h=>n35 (x35.2 h)),beq_eq_false_iff_ne.2 (fun h=>n10 (x10.2 h)),beq_eq_false_iff_ne.2 (fun h=>n32 (x32.2 h)),beq_eq_false_iff_ne.2 (fun h=>n9 (x9.2 h)),beq_eq_false_iff_ne.2 (fun h=>n13 (x13.2 h))];rfl
       have HS:=hid hskp;have b35:(x==35)=false:=beq_eq_false_iff_ne.2 n35
       have hcb:(x==32||(x==9||x==13))=false:=by
        rw [beq_eq_false_iff_ne.2 n32,beq_eq_false_iff_ne.2 n9,beq_eq_false_iff_ne.2 n13];rfl
       rw [hcb] at cB;obtain ⟨t,ht⟩:∃t,t=(l.drop i'.toNat).take (E.toNat-i'.toNat):=⟨_,rfl⟩;have hex':(s.extract i'.toNat E.toNat).data.toList=t:=by rw [Lib.extract_data,←HL.out,ht]
       have hsl:=fun W=>run_slice_string (P:=Tryz.prog) (w:=W) 9 s .i64 .i64 i' E Tryz.underlying9 i0' (by omega) e1;have hS0:(s.extract i'.toNat E.toNat).size≤1000000:=by rw [ByteArray.size_extract];omega
       obtain ⟨S,hSS⟩:∃S,S=s.extract i'.toNat E.toNat:=⟨_,rfl⟩;simp only [←hSS] at hsl;rw [←hSS] at hex' hS0;have cO:=fun W k=>of_any S W k hS0;rw [hex'] at cO;obtain ⟨K,hK⟩:∃K:Int,K=(kd t:Int):=⟨_,rfl⟩;simp only [←hK] at cO;have hS:Hid (S=⟨t.toArray⟩):=hid (by rw [hSS,Lib.extract_eq,←HL.out,ht]);clear x35 x10 x32 x9 x13 n35 n10 n32 n9 n13 hg hskp hcb hSS hS0 hex'
       go_wp2_with (first
         | (go_at_call 100;refine (cE _).mono ?_;rintro e w' ⟨rfl,h'⟩;rw [h'])
         | (go_at_call 101;refine (cB _).mono ?_;rintro e w' ⟨rfl,h'⟩;rw [h']))
       have hmr:=hid (hmx.out.later hst.out.2.2);have HK:=hid hK;have HT:=hid ht;have hw1:IntKind.i64.wrap (i'-B)=i'-B:=by rw [IntKind.wrap_i64 (i'-B)];omega
       have hw2:IntKind.i64.wrap (i'-B+1)=i'-B+1:=by rw [IntKind.wrap_i64 (i'-B+1)];omega
       clear hK ht
       go_region_held3 (fun w'=>Below wr.heap.size wr w')
        ((repeat (first|assumption|exact Below.refl _ _|(refine Below.drew ?_)|(refine lex_on ?_ ‹_›)|(refine alloc_on ?_ _)|(refine Below.setCell ?_ (by first|omega|(simp<;>omega)) _))))
        (first
        | (go_at_call 102
           refine (cO _ (hmr.out.later (by repeat (first|assumption|exact Below.refl _ _|(refine Below.drew ?_)|(refine lex_on ?_ ‹_›)|(refine alloc_on ?_ _))))).mono ?_;rintro e w2 ⟨rfl,b2⟩;have s2:wr.heap.size≤w2.heap.size:=by have:=b2.size;first|exact this|(simp at this;omega)
           first
            | (have M:=Tk0.later_drew (k:=wr.heap.size) b2 rfl;have M2:=hid M;obtain ⟨k0,k1,k2,k3,l0,l1,l2,l3,l4⟩:=M)
            | (have M:=Tk0.later (k:=wr.heap.size) b2 rfl;have M2:=hid M;obtain ⟨k0,k1,k2,k3,l0,l1,l2,l3,l4⟩:=M)
            | skip))
       all_goals
        first
         | (have M:=tk_alloc w2 (.int .i64 K) (.string S) (.int .i64 L) (.int .i64 (i'-B+1)) 154
            obtain ⟨w3,tb,hw3,htb,T3⟩:=M
            rw [hw3,htb])
         | (have M:=tk_set w2 (.int .i64 K) (.string S) (.int .i64 L) (.int .i64 (i'-B+1)) M2.out
            obtain ⟨w3,hw3,T3⟩:=M;obtain ⟨tb,htb⟩:∃tb,wr.heap.size=tb:=⟨_,rfl⟩;rw [htb] at T3
            rw [hw3,htb])
        have hB3:Below wr.heap.size wr w3:=by rw [←hw3];assumption
        have htb2:wr.heap.size≤tb:=by omega
        obtain ⟨hR,hO,hB⟩:=hst.out;have hB0:=lex_on hB hB3;have hws:w.heap.size<W0.heap.size:=by rw [HW.out];simp
        have hsz:=hB.size;have hsz3:=hB3.size;have hne:¬ tb=w.heap.size:=by omega
        have hne2:¬ w.heap.size=tb:=by omega
        have HB0:=hid hB0;have HT3:=hid T3;obtain ⟨t0,t1,t2,t3,t4⟩:=T3;have hB3':=hB3;clear hst htb hB3 hw3 b2;by_cases hK0:K=0
        ·subst hK0;have hE:=hid (lexed_bad (by omega) (hR.bad (k:=E.toNat) hil HS.out hpc.out (by rw [←HT.out];have:=HK.out;omega)));obtain ⟨c0,c1,c2,f0,f1,f2⟩:=flt0 HW.out hB0;clear hR hO hB hB0 hws hB3';go_wp2;go_region_held3 (fun w'=>w'.cell? ⟨tb,2,none⟩=some (.int .i64 L)∧w'.cell? ⟨tb,3,none⟩=some (.int .i64 (i'-B+1))) (go_keep) (fail)
         all_goals
          go_wp2;refine bodyPost_ret (v:=.tuple #[.slice none 0 0,.agg #[.int .i64 3,.int .i64 L,.int .i64 (i'-B+1)]]) (by simp [results,Tryz.results53,go_sem, *]) rfl ?_;rw [hE.out];refine ⟨.slice none 0 0,?_,holdsC_nil _,?_⟩
          ·show Ending.returned (.tuple #[.slice none 0 0,.agg #[.int .i64 3,.int .i64 L,.int .i64 (i'-B+1)]])=Ending.returned (.tuple #[.slice none 0 0,.agg #[.int .i64 3,.int .i64 (L.toNat:Int),.int .i64 ((i'-B+1).toNat:Int)]])
           rw [Int.toNat_of_nonneg (by omega),Int.toNat_of_nonneg (by omega)]
          ·exact (((((Below.refl _ w).alloc (Nat.le_refl _) _).trans ((HW.out ▸ HB0.out).mono (by simp))).drew.setCell (Nat.le_refl _) _).setCell (Nat.le_refl _) _).setCell (Nat.le_refl _) _
        ·have hTk:=hid (hR.tok (k:=E.toNat) hil HS.out (by omega) hpc.out (by rw [←HT.out];have:=HK.out;omega));have hcnt:=hR.count;have hn:acc.length+1≤8194:=by omega
         have bK:(K==0)=false:=beq_eq_false_iff_ne.2 hK0;have hO3:=owns_below hO hB3';have HO:=hid hO3;clear hcnt hK0 hR hB hO hB0
         go_wp2_with (at_builtin;refine wpList_append_own _ rfl _ _ 106 rfl W0.heap.size 154 i0 (.agg #[.int .i64 0,.string ⟨#[]⟩,.int .i64 0,.int .i64 0]) 4 40 und_tks hi hz0 hz1 hz2 rfl (by decide) _ _ _ rfl (hO3.alloc _) ⟨w3.heap.size,0,none⟩ 1 1 [.int .i64 K,.string S,.int .i64 L,.int .i64 (i'-B+1)] rfl rfl (by
           intro j u hj
           match j,hj with
           | 0,hj=>simp at hj;subst hj;simp [Addr.add]
           | 1,hj=>simp at hj;subst hj;simp [Addr.add]
           | 2,hj=>simp at hj;subst hj;simp [Addr.add]
           | 3,hj=>simp at hj;subst hj;simp [Addr.add]) (by simp [Value.oneCell']) (by unfold maxLen;omega) (by omega) (by simp;omega) ?_)
         intro v' w1 hown hgrow _;have hB1:Below W0.heap.size W0 w1:=(HB0.out.alloc HB0.out.size _).grown hgrow (by simp;omega) (fun k hk=>(HO.out.lt k hk).1);have HB1:=hid hB1;have HO1:=hid hown;clear hB1 hown hgrow hO3;go_wp2;go_roundw
         case rel=>exact ⟨L,B,E,i'+1,_,rfl,rfl,rfl,rfl,by omega,by omega,by omega,by omega,by omega,by omega,by omega,hid ⟨by
          rw [show (E-B+1).toNat=(i'-B+1).toNat+(E.toNat-i'.toNat) by omega];exact hTk.out,by
          rw [tokCells_snoc,List.length_append,←HT.out,←hS.out];show w1.ownsRow _ _ _ _ _ (_++[.int .i64 (kd t:Int),.string S,.int .i64 (L.toNat:Int),.int .i64 ((i'-B+1).toNat:Int)])
          rw [Int.toNat_of_nonneg (by omega),Int.toNat_of_nonneg (by omega),←HK.out]
          exact HO1.out,HB1.out⟩⟩
         case measure=>simp [intOf];omega
   ·obtain rfl:i'=s.size:=by omega
    obtain rfl:D=s.size:=by omega
    obtain ⟨hR,hO,hB⟩:=hst.out;have hE:=hid (lexed_ok (by omega) (hR.stop (by omega)));have hcnt:=hR.count;have hn:acc.length+1≤8194:=by omega
    clear hcnt hR;have hsz:=hB.size;have hF:=hid hB;go_wp2_with (at_builtin;refine wpList_append_own _ rfl _ _ 106 rfl W0.heap.size 154 i0 (.agg #[.int .i64 0,.string ⟨#[]⟩,.int .i64 0,.int .i64 0]) 4 40 und_tks hi hz0 hz1 hz2 rfl (by decide) _ _ _ rfl (hO.alloc _) ⟨wr.heap.size,0,none⟩ 1 1 [.int .i64 0,.string ⟨#[]⟩,.int .i64 L,.int .i64 (s.size-B+1)] rfl rfl ?c1 ?c2 ?c3 ?c4 ?c5 ?_)
    case c2=>exact ⟨rfl,rfl,rfl,rfl⟩
    case c3=>unfold maxLen;omega
    case c4=>omega
    case c5=>omega
    intro v' w1 hown hgrow _;have hB1:Below W0.heap.size W0 w1:=(hB.alloc hB.size _).grown hgrow (by simp;omega) (fun k hk=>(hO.lt k hk).1);obtain ⟨c0,c1,c2,f0,f1,f2⟩:=flt0 HW.out hB1;have HB1:=hid hB1;have HO1:=hid hown;have HG:=hid hgrow;clear hB1 hown hgrow hO hB;go_wp2;refine bodyPost_ret (v:=.tuple #[v',.agg #[.int .i64 0,.int .i64 0,.int .i64 0]]) (by simp [results,Tryz.results53,go_sem, *]) rfl ?_;rw [hE.out];have hws:w.heap.size<W0.heap.size:=by rw [HW.out];simp
    refine ⟨v',rfl,?_,(((((Below.refl _ w).alloc (Nat.le_refl _) _).trans ((HW.out ▸ HB1.out).mono (by simp))).setCell (Nat.le_refl _) _).setCell (Nat.le_refl _) _).setCell (Nat.le_refl _) _⟩;refine holdsC_own (base:=W0.heap.size) (e:=154) (owns_set (owns_set (owns_set ?_ hws _) hws _) hws _);rw [tokCells_snoc,List.length_append];show w1.ownsRow _ _ _ _ _ (_++[.int .i64 0,.string ⟨#[]⟩,.int .i64 (L.toNat:Int),.int .i64 (((s.size:Int)-B+1).toNat:Int)])
    rw [Int.toNat_of_nonneg (by omega),Int.toNat_of_nonneg (by omega)];exact HO1.out
end Le
end Go.Proofs.YtofbobdhkbmbgaaGreatDoor
