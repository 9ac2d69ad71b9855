/- What the document's answers for layer 5 (poundageref05) come to: Lex. -/
import Derived.Test.YtjgogpaedaffkaaGreatJRef5b
set_option maxRecDepth 100000
set_option maxHeartbeats 8000000
namespace Go.Proofs.YtjgogpaedaffkaaGreat
namespace P
end P
namespace R4
end R4
namespace Ex
end Ex
namespace Tl
end Tl
namespace R5
open Go.RowKit P R4
def tokCells (ts:List Tok):List Value:=ts.flatMap fun t=>[.int .i64 t.k,.string ⟨t.t.toArray⟩,.int .i64 t.ln,.int .i64 t.cl]
theorem tokCells_snoc (ts:List Tok) (t:Tok):tokCells (ts++[t])=tokCells ts++[.int .i64 t.k,.string ⟨t.t.toArray⟩,.int .i64 t.ln,.int .i64 t.cl]:=by unfold tokCells;simp
theorem owns_below {w w1:World} {base:Nat} {e:TypeId} {size n:Nat} {v:Value} {xs:List Value} (h:w.ownsRow base e size v n xs) (b:Below w.heap.size w w1):w1.ownsRow base e size v n xs:=by
 refine ⟨h.1,?_⟩;rcases h.2 with h2|⟨g,cap,cur,h1,h2,h3,h4⟩
 ·exact .inl h2
 ·have hg:g<w.heap.size:=by
   rcases Nat.lt_or_ge g w.heap.size with k|k
   ·exact k
   ·rw [Array.getElem?_eq_none k] at h3;cases h3
  exact .inr ⟨g,cap,cur,h1,h2,by rw [b.block g hg];exact h3,h4⟩
theorem info_tok:(Tryz.prog.info? 74).map (fun i=>(i.zero,i.size,i.bytes))=some (some (.agg #[.int .i64 0,.string ⟨#[]⟩,.int .i64 0,.int .i64 0]),4,40):=by kernel_rfl
theorem und_toks:Tryz.prog.underlying 67=some (.slice 74):=by kernel_rfl
theorem lex_any (s:ByteArray) (w:World):Calls Tryz.prog 21 #[.string s] w fun e w'=>∃v,e=.returned (.tuple #[v,.int .i64 (lexed s.data.toList).2.1,.int .i64 (lexed s.data.toList).2.2.1,.int .i64 (lexed s.data.toList).2.2.2])∧
  w'.ownsRow w.heap.size 74 4 v (lexed s.data.toList).1.length (tokCells (lexed s.data.toList).1)∧Below w.heap.size w w':=by
 obtain ⟨i0,hi,hz0,hz1,hz2⟩:=info_parts info_tok;have hbyte:=R4.byte_at s;obtain ⟨l,hl⟩:∃l,l=s.data.toList:=⟨_,rfl⟩;have hz:l.length=s.size:=by rw [hl];simp
 rw [←hl];rw [←hl] at hbyte;by_cases hbig:8192<s.size
 ·have hG:=hid (lexed_great (show 8192<l.length by omega));clear hbyte hl;go_enter Tryz.func21,Tryz.ntmps21
  go_wp2;refine bodyPost_ret (v:=.tuple #[.slice none 0 0,.int .i64 6,.int .i64 1,.int .i64 1]) (by simp [results,Tryz.results21,go_sem]) rfl ?_;rw [hG.out];exact ⟨_,rfl,World.ownsRow_nil _ _ _ _,Below.refl _ _⟩
 ·have HY:=hid hbyte;clear hbyte;go_enter Tryz.func21,Tryz.ntmps21
  go_wp2
  go_loopw [6,7,8,9] (fun v ln cl i wr=>∃(L C i':Int) (acc:List Tok),ln=.int .i64 L∧cl=.int .i64 C∧i=.int .i64 i'∧0≤i'∧i'≤s.size∧1≤L∧L≤i'+1∧1≤C∧C≤i'+1∧
   Hid (Sofar l i'.toNat L.toNat C.toNat acc∧wr.ownsRow w.heap.size 74 4 v acc.length (tokCells acc)∧Below w.heap.size w wr)) (fun _ _ _ i _=>((s.size:Int)-intOf i).toNat)
  case atStart=>exact ⟨1,1,0,[],rfl,rfl,rfl,by omega,by omega,by omega,by omega,by omega,by omega,hid ⟨read_start l,World.ownsRow_nil _ _ _ _,Below.refl _ _⟩⟩
  case round=>
   obtain ⟨L,C,i',acc,rfl,rfl,rfl,i0',i1,L0,L1,C0,C1,hst⟩:=hrel;by_cases hlt:i'<s.size
   ·have hb:=HY.out i' i0' hlt;have hil:i'.toNat<l.length:=by omega
    obtain ⟨c,hc⟩:∃c,c=l.getD i'.toNat 0:=⟨_,rfl⟩;simp only [←hc] at hb;have hx:∀n:UInt8,((c.toNat:Int)=(n.toNat:Int)↔c=n):=fun n=>⟨fun h=>UInt8.toNat_inj.1 (by omega),fun h=>by rw [h]⟩;have x35:=hx 35;have x10:=hx 10;have x32:=hx 32;have x9:=hx 9;have x13:=hx 13;have hlc:=ltI_of c;obtain ⟨x,hxx⟩:∃x:Int,x=(c.toNat:Int):=⟨_,rfl⟩;rw [←hxx] at x35 x10 x32 x9 x13 hlc;simp only [←hxx] at hb;simp only [show ((35:UInt8).toNat:Int)=35 from rfl,show ((10:UInt8).toNat:Int)=10 from rfl,show ((32:UInt8).toNat:Int)=32 from rfl,show ((9:UInt8).toNat:Int)=9 from rfl,show ((13:UInt8).toNat:Int)=13 from rfl] at x35 x10 x32 x9 x13;clear hx hxx;have HC:=hid hc;clear hc;obtain ⟨hR,hO,hB⟩:=hst.out;by_cases n35:x=35
    ·-- a note
     subst n35;have c35:=hid (x35.1 rfl);clear x35 x10 x32 x9 x13 hlc hR hO hB;go_wp2
     go_loop [11] (fun k=>∃k':Int,k=.int .i64 k'∧i'+1≤k'∧k'≤s.size∧Hid (∀j:Nat,i'.toNat+1≤j→j<k'.toNat→l.getD j 0≠10)) (fun k=>((s.size:Int)-intOf k).toNat)
     case atStart=>exact ⟨i'+1,rfl,by omega,by omega,hid (fun j a b=>by omega)⟩
     case round=>
      obtain ⟨k',rfl,k0,k1,hk⟩:=hrel;by_cases hkl:k'<s.size
      ·have hbk:=HY.out k' (by omega) hkl;obtain ⟨d,hd⟩:∃d,d=l.getD k'.toNat 0:=⟨_,rfl⟩;simp only [←hd] at hbk;obtain ⟨y,hy⟩:∃y:Int,y=(d.toNat:Int):=⟨_,rfl⟩;have hd10:y=10↔d=10:=⟨fun h=>UInt8.toNat_inj.1 (by show _=10;omega),fun h=>by rw [hy,h];rfl⟩;simp only [←hy] at hbk;clear hy;by_cases hy10:y=10
       ·have hp:=hid (piece_note (k:=k'.toNat) hil (by omega) (by omega) (HC.out.symm.trans c35.out) hk.out (fun _=>hd.symm.trans (hd10.1 hy10)));have b1:(y != 10)=false:=by rw [hy10];rfl
        have hR2:=hid (hst.out.1.skip (k:=k'.toNat) hil (by rw [←HC.out,c35.out];decide) (by rw [←HC.out,c35.out];decide) (by omega) hp.out);clear hd hd10 hy10 hk hp;go_wp2;go_roundw
        case rel=>exact ⟨L,C+(k'-i'),k',acc,rfl,vi (by omega),rfl,by omega,by omega,by omega,by omega,by omega,by omega,hid ⟨by
         rw [show (C+(k'-i')).toNat=C.toNat+(k'.toNat-i'.toNat) by omega];exact hR2.out,hst.out.2⟩⟩
        case measure=>simp [intOf];omega
       ·have b1:(y != 10)=true:=bne_iff_ne.2 hy10
        have hk2:Hid (∀j:Nat,i'.toNat+1≤j→j<(k'+1).toNat→l.getD j 0≠10):=hid (fun j a b=>by
         rcases Nat.lt_or_ge j k'.toNat with h|h
         ·exact hk.out j a h
         ·rw [show j=k'.toNat by omega,←hd];exact fun h=>hy10 (hd10.2 h))
        clear hd hd10 hy10 hk;go_wp2
        go_round
        case rel=>exact ⟨k'+1,rfl,by omega,by omega,hk2⟩
        case measure=>simp [intOf];omega
      ·obtain rfl:k'=s.size:=by omega
       have hp:=hid (piece_note (k:=(s.size:Int).toNat) hil (by omega) (by omega) (HC.out.symm.trans c35.out) hk.out (fun h=>by omega));have hR2:=hid (hst.out.1.skip (k:=(s.size:Int).toNat) hil (by rw [←HC.out,c35.out];decide) (by rw [←HC.out,c35.out];decide) (by omega) hp.out);clear hk hp;go_wp2;go_roundw
       case rel=>exact ⟨L,C+(s.size-i'),s.size,acc,rfl,vi (by omega),rfl,by omega,by omega,by omega,by omega,by omega,by omega,hid ⟨by
        rw [show (C+((s.size:Int)-i')).toNat=C.toNat+((s.size:Int).toNat-i'.toNat) by omega];exact hR2.out,hst.out.2⟩⟩
       case measure=>simp [intOf];omega
    ·by_cases n10:x=10
     ·subst n10;have hR2:=hid (hR.line hil (HC.out.symm.trans (x10.1 rfl)));clear x35 x10 x32 x9 x13 hlc hR hO hB n35;go_wp2;go_roundw
      case rel=>exact ⟨L+1,1,i'+1,acc,rfl,rfl,rfl,by omega,by omega,by omega,by omega,by omega,by omega,hid ⟨by
       rw [show (L+1).toNat=L.toNat+1 by omega,show (i'+1).toNat=i'.toNat+1 by omega];exact hR2.out,hst.out.2⟩⟩
      case measure=>simp [intOf];omega
     ·by_cases hg:x=32∨x=9∨x=13
      ·have hcc:c=32∨c=9∨c=13:=by
        rcases hg with h|h|h
        ·exact .inl (x32.1 h)
        ·exact .inr (.inl (x9.1 h))
        ·exact .inr (.inr (x13.1 h))
       have hgap:isGap c=true∧c≠10∧skips c=true:=by
        rcases hcc with h|h|h<;>rw [h]<;>decide
       have hR2:=hid (hR.skip (k:=i'.toNat+1) hil (by rw [←HC.out];exact hgap.2.2) (by rw [←HC.out];exact hgap.2.1) (by omega) ((piece_gap hil (by rw [←HC.out];exact hgap.1)).trans (by omega)));clear x35 x10 x32 x9 x13 hlc hR hO hB hcc hgap n35 n10
       have hend:Hid (Sofar l (i'+1).toNat L.toNat (C+1).toNat acc):=hid (by
        have:=hR2.out
        rw [show (i'+1).toNat=i'.toNat+1 by omega,show (C+1).toNat=C.toNat+(i'.toNat+1-i'.toNat) by omega];exact this)
       clear hR2;rcases hg with h|h|h
       all_goals
        subst h;go_wp2;go_roundw
        case rel=>exact ⟨L,C+1,i'+1,acc,rfl,vi (by omega),rfl,by omega,by omega,by omega,by omega,by omega,by omega,hid ⟨hend.out,hst.out.2⟩⟩
        case measure=>simp [intOf];omega
      ·have n32:x≠32:=fun h=>hg (.inl h);have n9:x≠9:=fun h=>hg (.inr (.inl h));have n13:x≠13:=fun h=>hg (.inr (.inr h))
       have hsk:skips (l.getD i'.toNat 0)=false:=by
        rw [←HC.out];unfold skips isGap;rw [beq_eq_false_iff_ne.2 (fun h=>n35 (x35.2 h)),beq_eq_false_iff_ne.2 (fun h=>n10 (x10.2 h)),beq_eq_false_iff_ne.2 (fun h=>n32 (x32.2 h)),beq_eq_false_iff_ne.2 (fun h=>n9 (x9.2 h)),beq_eq_false_iff_ne.2 (fun h=>n13 (x13.2 h))];rfl
       have HS:=hid hsk;have b35:(x==35)=false:=beq_eq_false_iff_ne.2 n35;have b10:(x==10)=false:=beq_eq_false_iff_ne.2 n10;have b32:(x != 32)=true:=bne_iff_ne.2 n32;have b9:(x != 9)=true:=bne_iff_ne.2 n9;have bb:(x != 10)=true:=bne_iff_ne.2 n10;have b13:(x != 13)=true:=bne_iff_ne.2 n13;clear x35 x10 x32 x9 x13 hR hO hB n35 n10 n32 n9 n13 hg hsk;go_wp2
       go_loop [11] (fun k=>∃k':Int,k=.int .i64 k'∧i'+1≤k'∧k'≤s.size∧Hid ((∀j:Nat,i'.toNat+1≤j→j<k'.toNat→isLt (l.getD j 0)=true)∧(isLt c=false→k'=i'+1))) (fun k=>((s.size:Int)-intOf k).toNat)
       case atStart=>exact ⟨i'+1,rfl,by omega,by omega,hid ⟨fun j a b=>by omega,fun _=>rfl⟩⟩
       case round=>
        obtain ⟨k',rfl,k0,k1,hk⟩:=hrel;have hbk:k'<s.size→_:=fun h=>HY.out k' (by omega) h;obtain ⟨d,hd⟩:∃d,d=l.getD k'.toNat 0:=⟨_,rfl⟩;simp only [←hd] at hbk;have hlk:=ltI_of d;obtain ⟨y,hy⟩:∃y:Int,y=(d.toNat:Int):=⟨_,rfl⟩;rw [←hy] at hlk;simp only [←hy] at hbk;clear hy;by_cases hgo:ltI x=true∧k'<s.size∧ltI y=true
        ·obtain ⟨g1,g2,g3⟩:=hgo;have hb2:=hbk g2
         have hk2:Hid ((∀j:Nat,i'.toNat+1≤j→j<(k'+1).toNat→isLt (l.getD j 0)=true)∧(isLt c=false→k'+1=i'+1)):=hid ⟨fun j a b=>by
          rcases Nat.lt_or_ge j k'.toNat with h|h
          ·exact hk.out.1 j a h
          ·rw [show j=k'.toNat by omega,←hd,←hlk];exact g3,fun h=>by rw [←hlc,g1] at h;cases h⟩
         clear hbk hd hlk hlc hk;go_wp2_with (go_at_call 51;refine (letter_any _ _).mono ?_;rintro e w' ⟨rfl,h'⟩;rw [h'])
         go_round
         case rel=>exact ⟨k'+1,rfl,by omega,by omega,hk2⟩
         case measure=>simp [intOf];omega
        ·have hex:ltI x=false∨(ltI x=true∧(s.size:Int)≤k')∨(ltI x=true∧k'<s.size∧ltI y=false):=by
          cases h1:ltI x
          ·exact .inl rfl
          ·by_cases h2:k'<s.size
           ·cases h3:ltI y
            ·exact .inr (.inr ⟨rfl,h2,rfl⟩)
            ·exact absurd ⟨h1,h2,h3⟩ hgo
           ·exact .inr (.inl ⟨rfl,by omega⟩)
         have hp:=hid (piece_row (k:=k'.toNat) hil (by omega) (by omega) HS.out hk.out.1 (fun a b=>by
          rw [←HC.out,←hlc] at a;rw [←hd,←hlk];rcases hex with h|⟨_,h⟩|⟨_,_,h⟩
          ·rw [h] at a;cases a
          ·omega
          ·exact h) (fun a=>by have:=hk.out.2 (by rw [HC.out];exact a);omega))
         clear hgo hk hd hlk hlc;obtain ⟨t,ht⟩:∃t,t=(l.drop i'.toNat).take (k'.toNat-i'.toNat):=⟨_,rfl⟩;have hex':(s.extract i'.toNat k'.toNat).data.toList=t:=by rw [Lib.extract_data,←hl,ht]
         have hsl:=fun W=>run_slice_string (P:=Tryz.prog) (w:=W) 9 s .i64 .i64 i' k' Tryz.underlying9 i0' (by omega) k1;have hS0:(s.extract i'.toNat k'.toNat).size≤1000000:=by rw [ByteArray.size_extract];omega
         obtain ⟨S,hSS⟩:∃S,S=s.extract i'.toNat k'.toNat:=⟨_,rfl⟩;simp only [←hSS] at hsl;rw [←hSS] at hex' hS0;have cO:=fun W=>of_any S W hS0;rw [hex'] at cO;obtain ⟨K,hK⟩:∃K:Int,K=(kd t:Int):=⟨_,rfl⟩;simp only [←hK] at cO;have hS:Hid (S=⟨t.toArray⟩):=hid (by rw [hSS,Lib.extract_eq,←hl,ht]);clear hSS hS0;by_cases hK0:K=0
         ·subst hK0;have hE:=hid (lexed_bad (by omega) (hst.out.1.bad (k:=k'.toNat) hil HS.out hp.out (by rw [←ht];omega)));have hBo:=hid hst.out.2.2;clear hex' hK ht hp hst;rcases hex with h1|⟨h1,h2⟩|⟨h1,h2,h3⟩
          all_goals
           try have hb2:=hbk h2
           clear hbk
           go_wp2_with (first
            | (go_at_call 51;refine (letter_any _ _).mono ?_;rintro e w' ⟨rfl,h'⟩;rw [h'])
            | (go_at_call 52;refine (cO _).mono ?_;rintro e w2 ⟨rfl,b2⟩))
           refine bodyPost_ret (v:=.tuple #[.slice none 0 0,.int .i64 3,.int .i64 L,.int .i64 C]) (by simp [results,Tryz.results21,go_sem]) rfl ?_;rw [hE.out];refine ⟨.slice none 0 0,?_,World.ownsRow_nil _ _ _ _,below_on hBo.out b2⟩;show Ending.returned (.tuple #[.slice none 0 0,.int .i64 3,.int .i64 L,.int .i64 C])=Ending.returned (.tuple #[.slice none 0 0,.int .i64 3,.int .i64 (L.toNat:Int),.int .i64 (C.toNat:Int)])
           rw [Int.toNat_of_nonneg (by omega),Int.toNat_of_nonneg (by omega)]
         ·have hTk:=hid (hst.out.1.tok (k:=k'.toNat) hil HS.out (by omega) hp.out (by rw [←ht];omega));have hcnt:=hst.out.1.count;have hn:acc.length+1≤8194:=by omega
          have hO:=hst.out.2.1;have hB:=hst.out.2.2;have hbase:=hB.size;have bK:(K==0)=false:=beq_eq_false_iff_ne.2 hK0;have HK:=hid hK;have HT:=hid ht;clear hex' hK ht hp hst hcnt hK0;have HO:=hid hO;have HB:=hid hB;clear hO hB;rcases hex with h1|⟨h1,h2⟩|⟨h1,h2,h3⟩
          all_goals
           try have hb2:=hbk h2
           clear hbk
           go_wp2_with (first
            | (go_at_call 51;refine (letter_any _ _).mono ?_;rintro e w' ⟨rfl,h'⟩;rw [h'])
            | (go_at_call 52;refine (cO _).mono ?_;rintro e w2 ⟨rfl,b2⟩;have HO2:=owns_below HO.out b2;have b2s:=b2.size)
            | (at_builtin;refine wpList_append_own _ rfl _ _ 67 rfl w.heap.size 74 i0 (.agg #[.int .i64 0,.string ⟨#[]⟩,.int .i64 0,.int .i64 0]) 4 40 und_toks hi hz0 hz1 hz2 rfl (by decide) _ _ _ rfl (HO2.alloc _) ⟨w2.heap.size,0,none⟩ 1 1 [.int .i64 K,.string S,.int .i64 L,.int .i64 C] rfl rfl (by
              intro j u hj
              match j,hj with
              | 0,hj=>simp at hj;subst hj;simp [Addr.add]
              | 1,hj=>simp at hj;subst hj;simp [Addr.add]
              | 2,hj=>simp at hj;subst hj;simp [Addr.add]
              | 3,hj=>simp at hj;subst hj;simp [Addr.add]) (by simp [Value.oneCell']) (by unfold maxLen;omega) (by omega) (by simp;omega) ?_))
           intro v' w1 hown hgrow _;go_wp2;go_roundw
           case rel=>exact ⟨L,C+(k'-i'),k',_,rfl,vi (by omega),rfl,by omega,by omega,by omega,by omega,by omega,by omega,hid ⟨by
            rw [show (C+(k'-i')).toNat=C.toNat+(k'.toNat-i'.toNat) by omega];exact hTk.out,by
            rw [tokCells_snoc,List.length_append,←HT.out,←hS.out];show w1.ownsRow _ _ _ _ _ (_++[.int .i64 (kd t:Int),.string S,.int .i64 (L.toNat:Int),.int .i64 (C.toNat:Int)])
            rw [Int.toNat_of_nonneg (by omega),Int.toNat_of_nonneg (by omega),←HK.out]
            exact hown,((below_on HB.out b2).alloc (by omega) _).grown hgrow (by simp;omega) (fun k hk=>(HO.out.lt k hk).1)⟩⟩
           case measure=>simp [intOf];omega
   ·obtain rfl:i'=s.size:=by omega
    obtain ⟨hR,hO,hB⟩:=hst.out;have hE:=hid (lexed_ok (by omega) (hR.stop (by omega)));have hcnt:=hR.count;have hn:acc.length+1≤8194:=by omega
    clear hcnt;have hsz:=hB.size;go_wp2_with (at_builtin;refine wpList_append_own _ rfl _ _ 67 rfl w.heap.size 74 i0 (.agg #[.int .i64 0,.string ⟨#[]⟩,.int .i64 0,.int .i64 0]) 4 40 und_toks hi hz0 hz1 hz2 rfl (by decide) _ _ _ rfl (hO.alloc _) ⟨wr.heap.size,0,none⟩ 1 1 [.int .i64 0,.string ⟨#[]⟩,.int .i64 L,.int .i64 C] rfl rfl ?c1 ?c2 ?c3 ?c4 ?c5 ?_)
    case c2=>exact ⟨rfl,rfl,rfl,rfl⟩
    case c3=>unfold maxLen;omega
    case c4=>omega
    case c5=>omega
    intro v' w1 hown hgrow _;go_wp2;refine bodyPost_ret (v:=.tuple #[v',.int .i64 0,.int .i64 0,.int .i64 0]) (by simp [results,Tryz.results21,go_sem]) rfl ?_;rw [hE.out];refine ⟨v',rfl,?_,(hB.alloc hB.size _).grown hgrow (by simp;omega) (fun k hk=>(hO.lt k hk).1)⟩;rw [tokCells_snoc,List.length_append];show w1.ownsRow _ _ _ _ _ (_++[.int .i64 0,.string ⟨#[]⟩,.int .i64 (L.toNat:Int),.int .i64 (C.toNat:Int)])
    rw [Int.toNat_of_nonneg (by omega),Int.toNat_of_nonneg (by omega)];exact hown
end R5
namespace R4
open Go.RowKit P Ex
theorem more_any (n d:Int) (ok:Bool) (w:World) (hn:I64 n) (hd:I64 d) :
  Calls Tryz.prog 83 #[.int .i64 n,.int .i64 d,.bool ok] w fun e w'=>e=.returned (.tuple #[.int .i64 (if ok&&ok64 (n*10+d) then n*10+d else 0),.bool (ok&&ok64 (n*10+d))])∧Below w.heap.size w w':=by
 have cM:=fun W=>R1.mul_any n 10 W hn (by unfold I64;omega);have cO:=fun W=>R1.of_any d W hd;have h1:(n*10).natAbs<two127:=by unfold I64 at hn;unfold two127;omega
 have h2:d.natAbs<two127:=by unfold I64 at hd;unfold two127;omega
 have cA:=fun W=>R1.add_any (n*10) d W h1 h2;have cI:=fun W=>R1.int_any (n*10+d) W;obtain ⟨V,hV⟩:∃V,V=n*10+d:=⟨_,rfl⟩;rw [←hV];simp only [←hV] at cA cI;obtain ⟨A,hA⟩:∃A,A=R1.W (n*10):=⟨_,rfl⟩;obtain ⟨D,hD⟩:∃D,D=R1.W d:=⟨_,rfl⟩;obtain ⟨S,hS⟩:∃S,S=R1.W V:=⟨_,rfl⟩;simp only [←hA] at cM cA;simp only [←hD] at cO cA;simp only [←hS] at cA cI;obtain ⟨K,hK⟩:∃K,K=ok64 V:=⟨_,rfl⟩;have hc:cut64 V=if K=true then V else 0:=by unfold cut64;rw [hK]
 rw [←hK];simp only [←hK,hc] at cI;clear hn hd h1 h2 hV hA hD hS hK hc;cases ok<;>cases K
 all_goals
  go_enter Tryz.func83,Tryz.ntmps83
  go_wp2_with (first
   | (go_at_call 84;refine (cM _).mono ?_;rintro e w1 ⟨rfl,b1⟩)
   | (go_at_call 60;refine (cO _).mono ?_;rintro e w2 ⟨rfl,b2⟩;have B2:=b1.trans (b2.mono b1.size))
   | (go_at_call 59;refine (cA _).mono ?_;rintro e w3 ⟨rfl,b3⟩;have B3:=B2.trans (b3.mono B2.size))
   | (go_at_call 58;refine (cI _).mono ?_;rintro e w4 ⟨rfl,b4⟩;have B4:=B3.trans (b4.mono B3.size)))
  go_ret2;exact ⟨Ex.ret_2 rfl rfl,B4⟩
theorem below_on {w W w':World} (h:Below w.heap.size w W) (hb:Below W.heap.size W w'):Below w.heap.size w w':=h.trans (hb.mono h.size)
theorem more_acc (v d:Int) (w:World) (hv:0≤v) (hd:0≤d) (hd1:d≤9) :
  Calls Tryz.prog 83 #[.int .i64 (cut64 v),.int .i64 d,.bool (ok64 v)] w fun e w'=>e=.returned (.tuple #[.int .i64 (cut64 (v*10+d)),.bool (ok64 (v*10+d))])∧Below w.heap.size w w':=by
 have h:=more_any (cut64 v) d (ok64 v) w (i64_cut v) (by unfold I64;omega);obtain ⟨e1,e2⟩:=acc_step hv hd;rw [e2,e1] at h;exact h
theorem parse_any (s:ByteArray) (places most:Int) (w:World) (hs:s.size≤4611686018427387904) :
  Calls Tryz.prog 55 #[.string s,.int .i64 places,.int .i64 most] w fun e w'=>e=.returned (.tuple #[.int .i64 (pN s.data.toList places most),.int .i64 (pW s.data.toList places most)])∧Below w.heap.size w w':=by
 have cO:=fun W=>of_any s W (by omega);obtain ⟨l,hl⟩:∃l,l=s.data.toList:=⟨_,rfl⟩;have hbyte:=byte_at s;have hz:l.length=s.size:=by rw [hl];simp
 rw [←hl];rw [←hl] at hbyte;simp only [←hl] at cO;clear hl;obtain ⟨F,hF⟩:∃F:Int,F=(fm l:Int):=⟨_,rfl⟩;simp only [←hF] at cO;by_cases h:F=0∨places<0∨9<places
 ·have hb:pBad l places=true:=by unfold pBad;rw [decide_eq_true_eq];omega
  have e1:=hid (show pN l places most=0 by unfold pN;rw [hb];rfl);have e2:=hid (show pW l places most=1 by unfold pW;rw [hb];rfl);clear hb hF hz hbyte;have h':F=0∨(F≠0∧places<0)∨(F≠0∧¬ places<0∧9<places):=by omega
  clear h;go_enter Tryz.func55,Tryz.ntmps55
  rcases h' with h|⟨h0,h⟩|⟨h0,h,h1⟩
  ·have b0:(F==0)=true:=by simpa using h
   go_wp2_with (go_at_call 80;refine (cO _).mono ?_;rintro e w' ⟨rfl,h'⟩;rw [h'])
   go_ret2;exact ⟨ret_2 (vi e1.out.symm) (vi e2.out.symm),Below.refl _ _⟩
  ·have b0:(F==0)=false:=by simpa using h0
   go_wp2_with (go_at_call 80;refine (cO _).mono ?_;rintro e w' ⟨rfl,h'⟩;rw [h'])
   go_ret2;exact ⟨ret_2 (vi e1.out.symm) (vi e2.out.symm),Below.refl _ _⟩
  ·have b0:(F==0)=false:=by simpa using h0
   go_wp2_with (go_at_call 80;refine (cO _).mono ?_;rintro e w' ⟨rfl,h'⟩;rw [h'])
   go_ret2;exact ⟨ret_2 (vi e1.out.symm) (vi e2.out.symm),Below.refl _ _⟩
 ·have b0:(F==0)=false:=by simp;omega
  have hfm:fm l≠0:=by omega
  have hall:=fm_all hfm;have h0:0≤places:=by omega
  have h9:places≤9:=by omega
  have hBad:pBad l places=decide (places<stB l):=by unfold pBad;rw [decide_eq_decide];omega
  clear h hF;go_enter Tryz.func55,Tryz.ntmps55
  go_wp2_with (go_at_call 80;refine (cO _).mono ?_;rintro e w' ⟨rfl,h'⟩;rw [h'])
  clear cO
  go_loopw [8,9,10,11] (fun b n ok i wr=>∃(b' v' i':Int),b=.int .i64 b'∧n=.int .i64 (cut64 v')∧ok=.bool (ok64 v')∧i=.int .i64 i'∧0≤i'∧i'≤s.size∧-1≤b'∧b'≤i'∧0≤v'∧
   Hid (b'=stB (l.take i'.toNat)∧v'=(stV (l.take i'.toNat):Int))∧Below w.heap.size w wr) (fun _ _ _ i _=>((s.size:Int)-intOf i).toNat)
  case atStart=>exact ⟨-1,0,0,rfl,rfl,rfl,rfl,by omega,by omega,by omega,by omega,by omega,hid ⟨rfl,rfl⟩,Below.refl _ _⟩
  case round=>
   obtain ⟨b',v',i',rfl,rfl,rfl,rfl,i0,i1,bl,bu,v0,hst,hbw⟩:=hrel;by_cases hi:i'<s.size
   ·have hil:i'.toNat<l.length:=by omega
    have hb:=hbyte i' i0 hi;have e1:(i'+1).toNat=i'.toNat+1:=by omega
    have hdp:=dp_or hall hil;have hts:=take_snoc hil;obtain ⟨hB,hV⟩:=hst.out;have sB:=stB_snoc (l.take i'.toNat) (l.getD i'.toNat 0);have sV:=stV_snoc (l.take i'.toNat) (l.getD i'.toNat 0);rw [←hts] at sB sV;obtain ⟨c,hc⟩:∃c,c=l.getD i'.toNat 0:=⟨_,rfl⟩;rw [←hc] at sB sV hdp;simp only [←hc] at hb;obtain ⟨z,hz'⟩:∃z:Int,z=(c.toNat:Int):=⟨_,rfl⟩;simp only [←hz'] at hb;clear hc hts hbyte hst;rcases hdp with hp46|hdg
    ·have b1:(z==46)=true:=by rw [hz',hp46];rfl
     rw [if_pos hp46] at sB sV;have H:Hid ((0:Int)=stB (l.take (i'+1).toNat)∧v'=(stV (l.take (i'+1).toNat):Int)):=hid (by rw [e1,sB,sV];exact ⟨rfl,hV⟩);clear sB sV hz' hp46 hB hV e1;go_wp2;go_roundw
     case rel=>exact ⟨0,v',i'+1,rfl,rfl,rfl,rfl,by omega,by omega,by omega,by omega,v0,H,hbw⟩
     case measure=>simp [intOf];omega
    ·have hne:=isDg_no46 hdg;rw [isDg_iff] at hdg;have b1:(z==46)=false:=by simp;omega
     rw [if_neg hne] at sB sV;have z0:48≤z:=by omega
     have z1:z≤57:=by omega
     have cM:=fun W=>more_acc v' (z-48) W v0 (by omega) (by omega);by_cases hb0:0≤b'
     ·rw [if_pos (by omega)] at sB;have H:Hid (b'+1=stB (l.take (i'+1).toNat)∧v'*10+(z-48)=(stV (l.take (i'+1).toNat):Int)):=hid (by rw [e1,sB,sV];omega);clear sB sV hz' hne hB hV e1 hdg;go_wp2_with (go_at_call 83;refine (cM _).mono ?_;rintro e w2 ⟨rfl,b2⟩;have B2:=below_on hbw b2)
      go_roundw
      case rel=>exact ⟨b'+1,_,i'+1,rfl,rfl,rfl,rfl,by omega,by omega,by omega,by omega,by omega,H,B2⟩
      case measure=>simp [intOf];omega
     ·rw [if_neg (by omega)] at sB;have H:Hid (b'=stB (l.take (i'+1).toNat)∧v'*10+(z-48)=(stV (l.take (i'+1).toNat):Int)):=hid (by rw [e1,sB,sV];omega);clear sB sV hz' hne hB hV e1 hdg;go_wp2_with (go_at_call 83;refine (cM _).mono ?_;rintro e w2 ⟨rfl,b2⟩;have B2:=below_on hbw b2)
      go_roundw
      case rel=>exact ⟨b',_,i'+1,rfl,rfl,rfl,rfl,by omega,by omega,by omega,by omega,by omega,H,B2⟩
      case measure=>simp [intOf];omega
   ·obtain rfl:i'=s.size:=by omega
    obtain ⟨hB,hV⟩:=hst.out;rw [show ((s.size:Int)).toNat=l.length by omega,List.take_length] at hB hV;rw [←hB] at hBad;by_cases hgt:places<b'
    ·have e1:=hid (show pN l places most=0 by unfold pN;rw [hBad,decide_eq_true hgt];rfl);have e2:=hid (show pW l places most=1 by unfold pW;rw [hBad,decide_eq_true hgt];rfl);clear hBad hB hV hst hbyte;go_wp2;go_ret2;exact ⟨ret_2 (vi e1.out.symm) (vi e2.out.symm),hbw⟩
    ·rw [decide_eq_false hgt] at hBad;have hk:pK l places=(places-max b' 0).toNat:=by unfold pK;rw [←hB]
     have hpv:pV l places=v'*10 ^ (places-max b' 0).toNat:=by unfold pV;rw [hk,←hV]
     obtain ⟨k0,hk0⟩:∃k0,k0=max b' 0:=⟨_,rfl⟩;have k00:0≤k0:=by omega
     have k01:k0≤places:=by omega
     rw [←hk0] at hpv;have hmx:(if b'<0 then 0 else b')=k0:=by rw [hk0];split<;>omega
     have HP:=hid hpv;have HB:=hid hBad;clear hBad hB hst hbyte hk hpv hV;go_wp2;go_loopw [9,10,12] (fun n ok k wx=>∃u k':Int,n=.int .i64 (cut64 u)∧ok=.bool (ok64 u)∧k=.int .i64 k'∧k0≤k'∧k'≤places∧0≤u∧Hid (u=v'*10 ^ (k'-k0).toNat)∧Below w.heap.size w wx) (fun _ _ k _=>(places-intOf k).toNat)
     case atStart=>exact ⟨v',k0,rfl,rfl,vi hk0.symm,by omega,k01,v0,hid (by simp),hbw⟩
     case round=>
      obtain ⟨u,k',rfl,rfl,rfl,q0,q1,u0,hu,hb2⟩:=hrel;by_cases hlt:k'<places
      ·have cM:=fun W=>more_acc u 0 W u0 (by omega) (by omega)
       have H:Hid (u*10=v'*10 ^ (k'+1-k0).toNat):=hid (by
        rw [show (k'+1-k0).toNat=(k'-k0).toNat+1 by omega,Int.pow_succ,←Int.mul_assoc,←hu.out])
       clear hu hmx hk0;go_wp2_with (go_at_call 83;refine (cM _).mono ?_;rintro e w2 ⟨rfl,b2⟩;have B2:=below_on hb2 b2)
       go_roundw
       case rel=>exact ⟨_,k'+1,rfl,rfl,rfl,by omega,by omega,by omega,H,B2⟩
       case measure=>simp [intOf];omega
      ·obtain rfl:k'=places:=by omega
       have hpu:pV l k'=u:=by rw [HP.out,hu.out]
       have hb:=HB.out;clear hmx hk0;cases hk:ok64 u
       ·have e1:=hid (show pN l k' most=0 by unfold pN pGreat;rw [hb,hpu,hk];rfl);have e2:=hid (show pW l k' most=2 by unfold pW pGreat;rw [hb,hpu,hk];rfl);clear hpu hb hu;go_wp2;go_ret2;exact ⟨ret_2 (vi e1.out.symm) (vi e2.out.symm),hb2⟩
       ·have hI:=(ok64_iff u).1 hk;have hcu:cut64 u=u:=cut64_t hI;rw [hcu];by_cases hm:most<u
        ·have e1:=hid (show pN l k' most=0 by unfold pN pGreat;rw [hb,hpu,hk,decide_eq_true hm];rfl);have e2:=hid (show pW l k' most=2 by unfold pW pGreat;rw [hb,hpu,hk,decide_eq_true hm];rfl);clear hpu hb hu;go_wp2;go_ret2;exact ⟨ret_2 (vi e1.out.symm) (vi e2.out.symm),hb2⟩
        ·have e1:=hid (show pN l k' most=u by unfold pN pGreat;rw [hb,hpu,hk,decide_eq_false hm];rfl);have e2:=hid (show pW l k' most=0 by unfold pW pGreat;rw [hb,hpu,hk,decide_eq_false hm];rfl);clear hpu hb hu;go_wp2;go_ret2;exact ⟨ret_2 (vi e1.out.symm) (vi e2.out.symm),hb2⟩
end R4
namespace R7
open Go.RowKit Go.Sort P Tl
structure Ps (w:World) (b tb cap:Nat) (ts:List Tok) (s:St):Prop where
 lt:b<w.heap.size
 c0:w.cell? ⟨b,0,none⟩=some (.slice (some ⟨tb,0,none⟩) ts.length cap)
 c1:w.cell? ⟨b,1,none⟩=some (.int .i64 s.i)
 c2:w.cell? ⟨b,2,none⟩=some (.int .i64 s.err)
 c3:w.cell? ⟨b,3,none⟩=some (.int .i64 s.ln)
 c4:w.cell? ⟨b,4,none⟩=some (.int .i64 s.cl)
 fr:∀j,w.frozen? ⟨b,j,none⟩=false
 ne:tb≠b
 tl:tb<w.heap.size
 tok:∀j t,ts[j]?=some t→w.cell? ⟨tb,j*4,none⟩=some (.int .i64 t.k)∧w.cell? ⟨tb,j*4+1,none⟩=some (.string ⟨t.t.toArray⟩)∧w.cell? ⟨tb,j*4+2,none⟩=some (.int .i64 t.ln)∧w.cell? ⟨tb,j*4+3,none⟩=some (.int .i64 t.cl)
 cnt:ts.length≤100000
 str:∀t∈ts,t.t.length≤1000000
 ok:Ok ts s
theorem grown_refl (w:World) (row:Option Nat):w.grownBy w row:=⟨rfl,rfl,rfl,Nat.le_refl _,fun _ _ _=>rfl⟩
theorem grown_trans {w w1 w2:World} {row:Option Nat} (a:w.grownBy w1 row) (b:w1.grownBy w2 row):w.grownBy w2 row:=
 ⟨b.os.trans a.os,b.tape.trans a.tape,b.output.trans a.output,Nat.le_trans a.size b.size,fun k hk hne=>(b.block k (Nat.lt_of_lt_of_le hk a.size) hne).trans (a.block k hk hne)⟩
theorem grown_below {w w1:World} {row:Option Nat} (a:Below w.heap.size w w1):w.grownBy w1 row:=⟨a.os,a.tape,a.output,a.size,fun k hk _=>a.block k hk⟩
theorem grown_set (w:World) (b k:Nat) (u:Value):w.grownBy (w.setCell ⟨b,k,none⟩ u) (some b):=
 ⟨rfl,rfl,rfl,by simp,fun j _ hne=>Below.heap_setCell w ⟨b,k,none⟩ u j (fun e=>hne (by rw [e]))⟩
theorem Ps.of_grown {w w':World} {b tb cap:Nat} {ts:List Tok} {s s':St} (h:Ps w b tb cap ts s) (hg:w.grownBy w' (some b)) (ok:Ok ts s')
  (c0:w'.cell? ⟨b,0,none⟩=some (.slice (some ⟨tb,0,none⟩) ts.length cap)) (c1:w'.cell? ⟨b,1,none⟩=some (.int .i64 s'.i)) (c2:w'.cell? ⟨b,2,none⟩=some (.int .i64 s'.err))
  (c3:w'.cell? ⟨b,3,none⟩=some (.int .i64 s'.ln)) (c4:w'.cell? ⟨b,4,none⟩=some (.int .i64 s'.cl)) (fr:∀j,w'.frozen? ⟨b,j,none⟩=false):Ps w' b tb cap ts s':=by
 have hb:w'.heap[tb]?=w.heap[tb]?:=hg.block tb h.tl (fun e=>h.ne (Option.some.inj e));have hc:∀o,w'.cell? ⟨tb,o,none⟩=w.cell? ⟨tb,o,none⟩:=fun o=>World.cell?_of_block hb;exact ⟨Nat.lt_of_lt_of_le h.lt hg.size,c0,c1,c2,c3,c4,fr,h.ne,Nat.lt_of_lt_of_le h.tl hg.size,fun j t hj=>by rw [hc,hc,hc,hc];exact h.tok j t hj,h.cnt,h.str,ok⟩
theorem Ps.on {w w':World} {b tb cap:Nat} {ts:List Tok} {s:St} (h:Ps w b tb cap ts s) (hb:Below w.heap.size w w'):Ps w' b tb cap ts s:=by
 have hc:∀o,w'.cell? ⟨b,o,none⟩=w.cell? ⟨b,o,none⟩:=fun o=>hb.cell h.lt;have hf:∀o,w'.frozen? ⟨b,o,none⟩=w.frozen? ⟨b,o,none⟩:=fun o=>hb.frozen h.lt;exact h.of_grown (grown_below hb) h.ok (by rw [hc];exact h.c0) (by rw [hc];exact h.c1) (by rw [hc];exact h.c2) (by rw [hc];exact h.c3) (by rw [hc];exact h.c4) (fun j=>by rw [hf];exact h.fr j)
theorem Ps.other {w w':World} {b tb cap:Nat} {ts:List Tok} {s:St} {row:Option Nat} (h:Ps w b tb cap ts s) (hg:w.grownBy w' row) (h1:some b≠row) (h2:some tb≠row):Ps w' b tb cap ts s:=by
 have e:=hg.block b h.lt h1;have hc:∀o,w'.cell? ⟨b,o,none⟩=w.cell? ⟨b,o,none⟩:=fun o=>World.cell?_of_block e;have hf:∀o,w'.frozen? ⟨b,o,none⟩=w.frozen? ⟨b,o,none⟩:=fun o=>World.frozen?_of_block e;have e2:=hg.block tb h.tl h2;have hc2:∀o,w'.cell? ⟨tb,o,none⟩=w.cell? ⟨tb,o,none⟩:=fun o=>World.cell?_of_block e2
 exact ⟨Nat.lt_of_lt_of_le h.lt hg.size,by rw [hc];exact h.c0,by rw [hc];exact h.c1,by rw [hc];exact h.c2,by rw [hc];exact h.c3,by rw [hc];exact h.c4,fun j=>by rw [hf];exact h.fr j,h.ne,Nat.lt_of_lt_of_le h.tl hg.size,
  fun j t hj=>by rw [hc2,hc2,hc2,hc2];exact h.tok j t hj,h.cnt,h.str,h.ok⟩
theorem Ps.at {w:World} {b tb cap:Nat} {ts:List Tok} {s:St} (h:Ps w b tb cap ts s) :
  w.cell? ⟨tb,s.i*4,none⟩=some (.int .i64 (tk ts s).k)∧w.cell? ⟨tb,s.i*4+1,none⟩=some (.string ⟨(tk ts s).t.toArray⟩)∧w.cell? ⟨tb,s.i*4+2,none⟩=some (.int .i64 (tk ts s).ln)∧w.cell? ⟨tb,s.i*4+3,none⟩=some (.int .i64 (tk ts s).cl):=h.tok _ _ h.ok.at
theorem Ps.str_at {w:World} {b tb cap:Nat} {ts:List Tok} {s:St} (h:Ps w b tb cap ts s):(tk ts s).t.length≤1000000:=h.str _ (List.mem_of_getElem? h.ok.at)
theorem Ps.step {w:World} {b tb cap:Nat} {ts:List Tok} {s:St} (h:Ps w b tb cap ts s) (ok:Ok ts s.next):Ps (w.setCell ⟨b,1,none⟩ (.int .i64 ((s.i:Int)+1))) b tb cap ts s.next:=by
 obtain ⟨lt,c0,c1,c2,c3,c4,fr,ne,tl,tok,cnt,str,_⟩:=h;have h':Ps w b tb cap ts s:=⟨lt,c0,c1,c2,c3,c4,fr,ne,tl,tok,cnt,str,by assumption⟩;have e:(.int .i64 (s.next.i:Int):Value)=.int .i64 ((s.i:Int)+1):=by show Value.int .i64 ((s.i+1:Nat):Int)=_;rw [Int.natCast_add];rfl
 refine h'.of_grown (grown_set _ _ _ _) ok ?_ ?_ ?_ ?_ ?_ ?_
 ·go_simp
 ·rw [e];go_simp
 ·show _=some (Value.int .i64 s.err);go_simp
 ·show _=some (Value.int .i64 s.ln);go_simp
 ·show _=some (Value.int .i64 s.cl);go_simp
 ·intro j;simpa using fr j
theorem Ps.put2 {w:World} {b tb cap:Nat} {ts:List Tok} {s:St} (h:Ps w b tb cap ts s) (e:Int):Ps (w.setCell ⟨b,2,none⟩ (.int .i64 e)) b tb cap ts { s with err:=e }:=by
 obtain ⟨lt,c0,c1,c2,c3,c4,fr,ne,tl,tok,cnt,str,ok⟩:=h;have h':Ps w b tb cap ts s:=⟨lt,c0,c1,c2,c3,c4,fr,ne,tl,tok,cnt,str,ok⟩;refine h'.of_grown (grown_set _ _ _ _) ⟨ok.toks,ok.lt⟩ ?_ ?_ ?_ ?_ ?_ ?_
 ·go_simp
 ·show _=some (Value.int .i64 (s.i:Int));go_simp
 ·show _=some (Value.int .i64 e);go_simp
 ·show _=some (Value.int .i64 s.ln);go_simp
 ·show _=some (Value.int .i64 s.cl);go_simp
 ·intro j;simpa using fr j
theorem Ps.put3 {w:World} {b tb cap:Nat} {ts:List Tok} {s:St} (h:Ps w b tb cap ts s) (e:Int):Ps (w.setCell ⟨b,3,none⟩ (.int .i64 e)) b tb cap ts { s with ln:=e }:=by
 obtain ⟨lt,c0,c1,c2,c3,c4,fr,ne,tl,tok,cnt,str,ok⟩:=h;have h':Ps w b tb cap ts s:=⟨lt,c0,c1,c2,c3,c4,fr,ne,tl,tok,cnt,str,ok⟩;refine h'.of_grown (grown_set _ _ _ _) ⟨ok.toks,ok.lt⟩ ?_ ?_ ?_ ?_ ?_ ?_
 ·go_simp
 ·show _=some (Value.int .i64 (s.i:Int));go_simp
 ·show _=some (Value.int .i64 s.err);go_simp
 ·show _=some (Value.int .i64 e);go_simp
 ·show _=some (Value.int .i64 s.cl);go_simp
 ·intro j;simpa using fr j
theorem Ps.put4 {w:World} {b tb cap:Nat} {ts:List Tok} {s:St} (h:Ps w b tb cap ts s) (e:Int):Ps (w.setCell ⟨b,4,none⟩ (.int .i64 e)) b tb cap ts { s with cl:=e }:=by
 obtain ⟨lt,c0,c1,c2,c3,c4,fr,ne,tl,tok,cnt,str,ok⟩:=h;have h':Ps w b tb cap ts s:=⟨lt,c0,c1,c2,c3,c4,fr,ne,tl,tok,cnt,str,ok⟩;refine h'.of_grown (grown_set _ _ _ _) ⟨ok.toks,ok.lt⟩ ?_ ?_ ?_ ?_ ?_ ?_
 ·go_simp
 ·show _=some (Value.int .i64 (s.i:Int));go_simp
 ·show _=some (Value.int .i64 s.err);go_simp
 ·show _=some (Value.int .i64 s.ln);go_simp
 ·show _=some (Value.int .i64 e);go_simp
 ·intro j;simpa using fr j
theorem wrong_any (b tb cap:Nat) (ts:List Tok) (s:St) (e:Int) (w:World) (h:Ps w b tb cap ts s) :
  Calls Tryz.prog 29 #[.pointer (some ⟨b,0,none⟩),.int .i64 e] w fun x w'=>x=.returned (.tuple #[])∧Ps w' b tb cap ts (wrg ts s e)∧w.grownBy w' (some b):=by
 have H:=hid h;have hb:=h.lt;have c2:=h.c2;by_cases h0:s.err=0
 ·have he:wrg ts s e = { s with err:=e,ln:=(tk ts s).ln,cl:=(tk ts s).cl }:=by unfold wrg;rw [if_pos h0]
  have HE:=hid he;have z:(s.err==0)=true:=by simpa using h0
  have f2:=h.fr 2;have i1:(0:Int)≤s.i:=by omega
  have i2:(s.i:Int)<ts.length:=by have:=h.ok.lt;omega
  have hc:=h.cnt;rw [h0] at c2;clear he z h0 h;go_enter Tryz.func29,Tryz.ntmps29
  go_wp2;obtain ⟨w1,hw1⟩:∃w1,w1=w.setCell ⟨b,2,none⟩ (.int .i64 e):=⟨_,rfl⟩;rw [←hw1];have Q1:Ps w1 b tb cap ts { s with err:=e }:=by rw [hw1];exact H.out.put2 e
  have g1:w.grownBy w1 (some b):=by rw [hw1];exact grown_set _ _ _ _
  have k0:=cell_regrown Q1.c0;have k1:=cell_regrown (show w1.cell? ⟨b,1,none⟩=some (.int .i64 s.i) from Q1.c1);have k3:=cell_regrown (show w1.cell? ⟨tb,s.i*4+2,none⟩=some (.int .i64 (tk ts s).ln) from Q1.at.2.2.1);have HQ1:=hid Q1;clear hw1 Q1 c2 f2 hb;refine region_tail_below 14 (by kernel_rfl) (by kernel_rfl) ?_;simp only [List.take_succ_cons,List.take_zero,List.drop_succ_cons,List.drop_zero];repeat (go_big_quiet_step (fail))
  refine wpQuiet_nil ?_;intro _ hw';obtain ⟨⟨dq,osq⟩,hw''⟩:=hw';subst hw'';obtain ⟨w2,hw2⟩:∃w2,w2=grow (redrawn w1 dq) osq:=⟨_,rfl⟩;have b2:Below w1.heap.size w1 w2:=by rw [hw2];exact below_regrown w1 dq osq
  rw [←hw2];have Q2:=HQ1.out.on b2;have c3:=Q2.c3;have f3:=Q2.fr 3;have hb:=Q2.lt;have HQ2:=hid Q2;clear hw2 k0 k1 k3 Q2;go_wp2;obtain ⟨w3,hw3⟩:∃w3,w3=w2.setCell ⟨b,3,none⟩ (.int .i64 (tk ts s).ln):=⟨_,rfl⟩;rw [←hw3];have Q3:Ps w3 b tb cap ts { s with err:=e,ln:=(tk ts s).ln }:=by rw [hw3];exact HQ2.out.put3 (tk ts s).ln
  have g3:w.grownBy w3 (some b):=by rw [hw3];exact grown_trans g1 (grown_trans (grown_below b2) (grown_set _ _ _ _))
  have k0:=cell_regrown Q3.c0;have k1:=cell_regrown (show w3.cell? ⟨b,1,none⟩=some (.int .i64 s.i) from Q3.c1);have k3:=cell_regrown (show w3.cell? ⟨tb,s.i*4+3,none⟩=some (.int .i64 (tk ts s).cl) from Q3.at.2.2.2);have HQ3:=hid Q3;clear hw3 Q3 c3 f3 hb;refine region_tail_below 14 (by kernel_rfl) (by kernel_rfl) ?_;simp only [List.take_succ_cons,List.take_zero,List.drop_succ_cons,List.drop_zero];repeat (go_big_quiet_step (fail))
  refine wpQuiet_nil ?_;intro _ hw';obtain ⟨⟨dq,osq⟩,hw''⟩:=hw';subst hw'';obtain ⟨w4,hw4⟩:∃w4,w4=grow (redrawn w3 dq) osq:=⟨_,rfl⟩;have b4:Below w3.heap.size w3 w4:=by rw [hw4];exact below_regrown w3 dq osq
  rw [←hw4];have Q4:=HQ3.out.on b4;have c4:=Q4.c4;have f4:=Q4.fr 4;have hb:=Q4.lt;have HQ4:=hid Q4;clear hw4 k0 k1 k3 Q4;go_wp2
  go_end0
  refine ⟨rfl,?_,grown_trans g3 (grown_trans (grown_below b4) (grown_set _ _ _ _))⟩;rw [HE.out];exact HQ4.out.put4 (tk ts s).cl
 ·have he:wrg ts s e=s:=by unfold wrg;rw [if_neg h0]
  rw [he];have z:(s.err==0)=false:=by simpa using h0
  clear he h;go_enter Tryz.func29,Tryz.ntmps29
  go_wp2
  go_end0
  exact ⟨rfl,H.out,grown_refl _ _⟩
theorem alloc_on {w W:World} (h:Below w.heap.size w W) (o:Obj):Below w.heap.size w (W.alloc o):=h.alloc h.size o
theorem loaded (w:World) (vs:List Value) (t:TypeId):∃w1,(w.alloc (.cells vs.toArray t)).drew=w1∧Below w.heap.size w w1∧w.heap.size<w1.heap.size∧∀j u,vs[j]?=some u→w1.cell? ⟨w.heap.size,j,none⟩=some u:=
 ⟨_,rfl,((Below.refl _ _).alloc (Nat.le_refl _) _).drew,by simp,fun j u h=>by
  show (w.alloc _).cell? _=_
  rw [World.cell?_alloc_new];simpa using h⟩
theorem on_any (b tb cap:Nat) (ts:List Tok) (s:St) (l:ByteArray) (w:World) (h:Ps w b tb cap ts s) :
  Calls Tryz.prog 81 #[.pointer (some ⟨b,0,none⟩),.string l] w fun x w'=>x=.returned (.bool (onW ts s l.data.toList))∧Below w.heap.size w w':=by
 have H:=hid h;obtain ⟨R,hR⟩:∃R:Bool,R=onW ts s l.data.toList:=⟨_,rfl⟩;rw [←hR];replace hR:=hid hR;have hb:=h.lt;have ht:=h.tl;have c0:=h.c0;have c1:=h.c1;have i1:(0:Int)≤s.i:=by omega
 have i2:(s.i:Int)<ts.length:=by have:=h.ok.lt;omega
 have hc:=h.cnt;obtain ⟨a0,a1,a2,a3⟩:=h.at
 have KP:Hid (∀w',Below w.heap.size w w'→w'.cell? ⟨b,0,none⟩=some (.slice (some ⟨tb,0,none⟩) ts.length cap)∧w'.cell? ⟨b,1,none⟩=some (.int .i64 s.i)∧w'.cell? ⟨tb,s.i*4,none⟩=some (.int .i64 (tk ts s).k)∧w'.cell? ⟨tb,s.i*4+1,none⟩=some (.string ⟨(tk ts s).t.toArray⟩)∧w'.cell? ⟨tb,s.i*4+2,none⟩=some (.int .i64 (tk ts s).ln)∧w'.cell? ⟨tb,s.i*4+3,none⟩=some (.int .i64 (tk ts s).cl)∧Below w.heap.size w w'):=hid fun w' hb=>by
  have h':=H.out.on hb;exact ⟨h'.c0,h'.c1,h'.at.1,h'.at.2.1,h'.at.2.2.1,h'.at.2.2.2,hb⟩
 clear h;go_enter Tryz.func81,Tryz.ntmps81
 go_upto_region 1 with fail
 go_region_held3 (fun w'=>w'.cell? ⟨b,0,none⟩=some (.slice (some ⟨tb,0,none⟩) ts.length cap)∧w'.cell? ⟨b,1,none⟩=some (.int .i64 s.i)∧w'.cell? ⟨tb,s.i*4,none⟩=some (.int .i64 (tk ts s).k)∧w'.cell? ⟨tb,s.i*4+1,none⟩=some (.string ⟨(tk ts s).t.toArray⟩)∧w'.cell? ⟨tb,s.i*4+2,none⟩=some (.int .i64 (tk ts s).ln)∧w'.cell? ⟨tb,s.i*4+3,none⟩=some (.int .i64 (tk ts s).cl)∧Below w.heap.size w w')
  ((refine KP.out _ ?_;repeat (first|assumption|exact Below.refl _ _|(refine Below.drew ?_)|(refine alloc_on ?_ _)|(refine Below.setCell ?_ (by first|omega|(simp<;>omega)) _))))
  (fail)
 obtain ⟨T,hT⟩:∃T:ByteArray,T=⟨(tk ts s).t.toArray⟩:=⟨_,rfl⟩;have hTl:T.toList=(tk ts s).t:=by rw [Lib.toList_data,hT]
 obtain ⟨K,hK⟩:∃K:Int,K=((tk ts s).k:Int):=⟨_,rfl⟩;rw [←hT,←hK];obtain ⟨w2,hw2,b2,lt2,cell⟩:=loaded w [.int .i64 K,.string T,.int .i64 (tk ts s).ln,.int .i64 (tk ts s).cl] 74;rw [hw2];have d0:=cell 0 _ rfl;have d1:=cell 1 _ rfl;have c2:w2.cell? ⟨b,2,none⟩=some (.int .i64 s.err):=(H.out.on b2).c2;have hb2:b<w2.heap.size:=Nat.lt_of_lt_of_le hb b2.size;have hll:l.toList=l.data.toList:=Lib.toList_data l
 have hon:onW ts s l.data.toList=((s.err==0)&&((K==2||K==5)&&((tk ts s).t==l.data.toList))):=by
  unfold onW;have e1:decide (s.err=0)=(s.err==0):=by rw [Bool.eq_iff_iff,decide_eq_true_eq,beq_iff_eq]
  have e2:decide ((tk ts s).k=2)=(K==2):=by rw [Bool.eq_iff_iff,decide_eq_true_eq,beq_iff_eq];omega
  have e3:decide ((tk ts s).k=5)=(K==5):=by rw [Bool.eq_iff_iff,decide_eq_true_eq,beq_iff_eq];omega
  rw [e1,e2,e3]
 rw [hon] at hR;obtain ⟨E,hE⟩:∃E,E=s.err:=⟨_,rfl⟩;obtain ⟨u,hu⟩:∃u,u=(tk ts s).t:=⟨_,rfl⟩;rw [←hE] at c2 hR;rw [←hu] at hTl hR;clear hw2 cell hT hK hon hE hu hb ht i1 i2 hc KP;rcases Bool.eq_false_or_eq_true (E==0) with h1|h1
 ·rcases Bool.eq_false_or_eq_true (K==2) with h2|h2
  ·have G:Hid (R=(u==l.data.toList)):=hid (by rw [hR.out,h1,h2];simp);clear hR;go_wp2;go_ret;exact ⟨ret_b G.out.symm,b2⟩
  ·rcases Bool.eq_false_or_eq_true (K==5) with h3|h3
   ·have G:Hid (R=(u==l.data.toList)):=hid (by rw [hR.out,h1,h2,h3];simp);clear hR;go_wp2;go_ret;exact ⟨ret_b G.out.symm,b2⟩
   ·have G:Hid (R=false):=hid (by rw [hR.out,h1,h2,h3];simp);clear hR;go_wp2;go_ret;exact ⟨ret_b G.out.symm,b2⟩
 ·have G:Hid (R=false):=hid (by rw [hR.out,h1];simp);clear hR;go_wp2;go_ret;exact ⟨ret_b G.out.symm,b2⟩
end R7
end Go.Proofs.YtjgogpaedaffkaaGreat
