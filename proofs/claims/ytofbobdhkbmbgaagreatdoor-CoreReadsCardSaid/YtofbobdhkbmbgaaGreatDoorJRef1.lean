/- What the document's answers for layer 5 (poundageref05) come to: Lex. -/
import Derived.Test.YtofbobdhkbmbgaaGreatDoorJRef5b
set_option maxRecDepth 100000
set_option maxHeartbeats 8000000
namespace Go.Proofs.YtofbobdhkbmbgaaGreatDoor
namespace R5
open Go.RowKit P R4
def tokCells (ts:List Tok):List Value:=ts.flatMap fun t=>[.int .i64 t.k,.string ⟨t.t.toArray⟩,.int .i64 t.ln,.int .i64 t.cl]
theorem tokCells_snoc (ts:List Tok) (t:Tok):tokCells (ts++[t])=tokCells ts++[.int .i64 t.k,.string ⟨t.t.toArray⟩,.int .i64 t.ln,.int .i64 t.cl]:=by unfold tokCells;simp
theorem owns_below {w w1:World} {base:Nat} {e:TypeId} {size n:Nat} {v:Value} {xs:List Value} (h:w.ownsRow base e size v n xs) (b:Below w.heap.size w w1):w1.ownsRow base e size v n xs:=by
 refine ⟨h.1,?_⟩;rcases h.2 with h2|⟨g,cap,cur,h1,h2,h3,h4⟩
 ·exact .inl h2
 ·have hg:g<w.heap.size:=by
   rcases Nat.lt_or_ge g w.heap.size with k|k
   ·exact k
   ·rw [Array.getElem?_eq_none k] at h3;cases h3
  exact .inr ⟨g,cap,cur,h1,h2,by rw [b.block g hg];exact h3,h4⟩
theorem info_tok:(Tryz.prog.info? 76).map (fun i=>(i.zero,i.size,i.bytes))=some (some (.agg #[.int .i64 0,.string ⟨#[]⟩,.int .i64 0,.int .i64 0]),4,40):=by kernel_rfl
theorem und_toks:Tryz.prog.underlying 69=some (.slice 76):=by kernel_rfl
theorem lex_any (s:ByteArray) (w:World):Calls Tryz.prog 22 #[.string s] w fun e w'=>∃v,e=.returned (.tuple #[v,.int .i64 (lexed s.data.toList).2.1,.int .i64 (lexed s.data.toList).2.2.1,.int .i64 (lexed s.data.toList).2.2.2])∧
  w'.ownsRow w.heap.size 76 4 v (lexed s.data.toList).1.length (tokCells (lexed s.data.toList).1)∧Below w.heap.size w w':=by
 obtain ⟨i0,hi,hz0,hz1,hz2⟩:=info_parts info_tok;have hbyte:=R4.byte_at s;obtain ⟨l,hl⟩:∃l,l=s.data.toList:=⟨_,rfl⟩;have hz:l.length=s.size:=by rw [hl];simp
 rw [←hl];rw [←hl] at hbyte;by_cases hbig:8192<s.size
 ·have hG:=hid (lexed_great (show 8192<l.length by omega));clear hbyte hl;go_enter Tryz.func22,Tryz.ntmps22
  go_wp2;refine bodyPost_ret (v:=.tuple #[.slice none 0 0,.int .i64 6,.int .i64 1,.int .i64 1]) (by simp [results,Tryz.results22,go_sem]) rfl ?_;rw [hG.out];exact ⟨_,rfl,World.ownsRow_nil _ _ _ _,Below.refl _ _⟩
 ·have HY:=hid hbyte;clear hbyte;go_enter Tryz.func22,Tryz.ntmps22
  go_wp2
  go_loopw [6,7,8,9] (fun v ln cl i wr=>∃(L C i':Int) (acc:List Tok),ln=.int .i64 L∧cl=.int .i64 C∧i=.int .i64 i'∧0≤i'∧i'≤s.size∧1≤L∧L≤i'+1∧1≤C∧C≤i'+1∧
   Hid (Sofar l i'.toNat L.toNat C.toNat acc∧wr.ownsRow w.heap.size 76 4 v acc.length (tokCells acc)∧Below w.heap.size w wr)) (fun _ _ _ i _=>((s.size:Int)-intOf i).toNat)
  case atStart=>exact ⟨1,1,0,[],rfl,rfl,rfl,by omega,by omega,by omega,by omega,by omega,by omega,hid ⟨read_start l,World.ownsRow_nil _ _ _ _,Below.refl _ _⟩⟩
  case round=>
   obtain ⟨L,C,i',acc,rfl,rfl,rfl,i0',i1,L0,L1,C0,C1,hst⟩:=hrel;by_cases hlt:i'<s.size
   ·have hb:=HY.out i' i0' hlt;have hil:i'.toNat<l.length:=by omega
    obtain ⟨c,hc⟩:∃c,c=l.getD i'.toNat 0:=⟨_,rfl⟩;simp only [←hc] at hb;have hx:∀n:UInt8,((c.toNat:Int)=(n.toNat:Int)↔c=n):=fun n=>⟨fun h=>UInt8.toNat_inj.1 (by omega),fun h=>by rw [h]⟩;have x35:=hx 35;have x10:=hx 10;have x32:=hx 32;have x9:=hx 9;have x13:=hx 13;have hlc:=ltI_of c;obtain ⟨x,hxx⟩:∃x:Int,x=(c.toNat:Int):=⟨_,rfl⟩;rw [←hxx] at x35 x10 x32 x9 x13 hlc;simp only [←hxx] at hb;simp only [show ((35:UInt8).toNat:Int)=35 from rfl,show ((10:UInt8).toNat:Int)=10 from rfl,show ((32:UInt8).toNat:Int)=32 from rfl,show ((9:UInt8).toNat:Int)=9 from rfl,show ((13:UInt8).toNat:Int)=13 from rfl] at x35 x10 x32 x9 x13;clear hx hxx;have HC:=hid hc;clear hc;obtain ⟨hR,hO,hB⟩:=hst.out;by_cases n35:x=35
    ·-- a note
     subst n35;have c35:=hid (x35.1 rfl);clear x35 x10 x32 x9 x13 hlc hR hO hB;go_wp2
     go_loop [11] (fun k=>∃k':Int,k=.int .i64 k'∧i'+1≤k'∧k'≤s.size∧Hid (∀j:Nat,i'.toNat+1≤j→j<k'.toNat→l.getD j 0≠10)) (fun k=>((s.size:Int)-intOf k).toNat)
     case atStart=>exact ⟨i'+1,rfl,by omega,by omega,hid (fun j a b=>by omega)⟩
     case round=>
      obtain ⟨k',rfl,k0,k1,hk⟩:=hrel;by_cases hkl:k'<s.size
      ·have hbk:=HY.out k' (by omega) hkl;obtain ⟨d,hd⟩:∃d,d=l.getD k'.toNat 0:=⟨_,rfl⟩;simp only [←hd] at hbk;obtain ⟨y,hy⟩:∃y:Int,y=(d.toNat:Int):=⟨_,rfl⟩;have hd10:y=10↔d=10:=⟨fun h=>UInt8.toNat_inj.1 (by show _=10;omega),fun h=>by rw [hy,h];rfl⟩;simp only [←hy] at hbk;clear hy;by_cases hy10:y=10
       ·have hp:=hid (piece_note (k:=k'.toNat) hil (by omega) (by omega) (HC.out.symm.trans c35.out) hk.out (fun _=>hd.symm.trans (hd10.1 hy10)));have b1:(y != 10)=false:=by rw [hy10];rfl
        have hR2:=hid (hst.out.1.skip (k:=k'.toNat) hil (by rw [←HC.out,c35.out];decide) (by rw [←HC.out,c35.out];decide) (by omega) hp.out);clear hd hd10 hy10 hk hp;go_wp2;go_roundw
        case rel=>exact ⟨L,C+(k'-i'),k',acc,rfl,vi (by omega),rfl,by omega,by omega,by omega,by omega,by omega,by omega,hid ⟨by
         rw [show (C+(k'-i')).toNat=C.toNat+(k'.toNat-i'.toNat) by omega];exact hR2.out,hst.out.2⟩⟩
        case measure=>simp [intOf];omega
       ·have b1:(y != 10)=true:=bne_iff_ne.2 hy10
        have hk2:Hid (∀j:Nat,i'.toNat+1≤j→j<(k'+1).toNat→l.getD j 0≠10):=hid (fun j a b=>by
         rcases Nat.lt_or_ge j k'.toNat with h|h
         ·exact hk.out j a h
         ·rw [show j=k'.toNat by omega,←hd];exact fun h=>hy10 (hd10.2 h))
        clear hd hd10 hy10 hk;go_wp2
        go_round
        case rel=>exact ⟨k'+1,rfl,by omega,by omega,hk2⟩
        case measure=>simp [intOf];omega
      ·obtain rfl:k'=s.size:=by omega
       have hp:=hid (piece_note (k:=(s.size:Int).toNat) hil (by omega) (by omega) (HC.out.symm.trans c35.out) hk.out (fun h=>by omega));have hR2:=hid (hst.out.1.skip (k:=(s.size:Int).toNat) hil (by rw [←HC.out,c35.out];decide) (by rw [←HC.out,c35.out];decide) (by omega) hp.out);clear hk hp;go_wp2;go_roundw
       case rel=>exact ⟨L,C+(s.size-i'),s.size,acc,rfl,vi (by omega),rfl,by omega,by omega,by omega,by omega,by omega,by omega,hid ⟨by
        rw [show (C+((s.size:Int)-i')).toNat=C.toNat+((s.size:Int).toNat-i'.toNat) by omega];exact hR2.out,hst.out.2⟩⟩
       case measure=>simp [intOf];omega
    ·by_cases n10:x=10
     ·subst n10;have hR2:=hid (hR.line hil (HC.out.symm.trans (x10.1 rfl)));clear x35 x10 x32 x9 x13 hlc hR hO hB n35;go_wp2;go_roundw
      case rel=>exact ⟨L+1,1,i'+1,acc,rfl,rfl,rfl,by omega,by omega,by omega,by omega,by omega,by omega,hid ⟨by
       rw [show (L+1).toNat=L.toNat+1 by omega,show (i'+1).toNat=i'.toNat+1 by omega];exact hR2.out,hst.out.2⟩⟩
      case measure=>simp [intOf];omega
     ·by_cases hg:x=32∨x=9∨x=13
      ·have hcc:c=32∨c=9∨c=13:=by
        rcases hg with h|h|h
        ·exact .inl (x32.1 h)
        ·exact .inr (.inl (x9.1 h))
        ·exact .inr (.inr (x13.1 h))
       have hgap:isGap c=true∧c≠10∧skips c=true:=by
        rcases hcc with h|h|h<;>rw [h]<;>decide
       have hR2:=hid (hR.skip (k:=i'.toNat+1) hil (by rw [←HC.out];exact hgap.2.2) (by rw [←HC.out];exact hgap.2.1) (by omega) ((piece_gap hil (by rw [←HC.out];exact hgap.1)).trans (by omega)));clear x35 x10 x32 x9 x13 hlc hR hO hB hcc hgap n35 n10
       have hend:Hid (Sofar l (i'+1).toNat L.toNat (C+1).toNat acc):=hid (by
        have:=hR2.out
        rw [show (i'+1).toNat=i'.toNat+1 by omega,show (C+1).toNat=C.toNat+(i'.toNat+1-i'.toNat) by omega];exact this)
       clear hR2;rcases hg with h|h|h
       all_goals
        subst h;go_wp2;go_roundw
        case rel=>exact ⟨L,C+1,i'+1,acc,rfl,vi (by omega),rfl,by omega,by omega,by omega,by omega,by omega,by omega,hid ⟨hend.out,hst.out.2⟩⟩
        case measure=>simp [intOf];omega
      ·have n32:x≠32:=fun h=>hg (.inl h);have n9:x≠9:=fun h=>hg (.inr (.inl h));have n13:x≠13:=fun h=>hg (.inr (.inr h))
       have hsk:skips (l.getD i'.toNat 0)=false:=by
        rw [←HC.out];unfold skips isGap;rw [beq_eq_false_iff_ne.2 (fun h=>n35 (x35.2 h)),beq_eq_false_iff_ne.2 (fun h=>n10 (x10.2 h)),beq_eq_false_iff_ne.2 (fun h=>n32 (x32.2 h)),beq_eq_false_iff_ne.2 (fun h=>n9 (x9.2 h)),beq_eq_false_iff_ne.2 (fun h=>n13 (x13.2 h))];rfl
       have HS:=hid hsk;have b35:(x==35)=false:=beq_eq_false_iff_ne.2 n35;have b10:(x==10)=false:=beq_eq_false_iff_ne.2 n10;have b32:(x != 32)=true:=bne_iff_ne.2 n32;have b9:(x != 9)=true:=bne_iff_ne.2 n9;have bb:(x != 10)=true:=bne_iff_ne.2 n10;have b13:(x != 13)=true:=bne_iff_ne.2 n13;clear x35 x10 x32 x9 x13 hR hO hB n35 n10 n32 n9 n13 hg hsk;go_wp2
       go_loop [11] (fun k=>∃k':Int,k=.int .i64 k'∧i'+1≤k'∧k'≤s.size∧Hid ((∀j:Nat,i'.toNat+1≤j→j<k'.toNat→isLt (l.getD j 0)=true)∧(isLt c=false→k'=i'+1))) (fun k=>((s.size:Int)-intOf k).toNat)
       case atStart=>exact ⟨i'+1,rfl,by omega,by omega,hid ⟨fun j a b=>by omega,fun _=>rfl⟩⟩
       case round=>
        obtain ⟨k',rfl,k0,k1,hk⟩:=hrel;have hbk:k'<s.size→_:=fun h=>HY.out k' (by omega) h;obtain ⟨d,hd⟩:∃d,d=l.getD k'.toNat 0:=⟨_,rfl⟩;simp only [←hd] at hbk;have hlk:=ltI_of d;obtain ⟨y,hy⟩:∃y:Int,y=(d.toNat:Int):=⟨_,rfl⟩;rw [←hy] at hlk;simp only [←hy] at hbk;clear hy;by_cases hgo:ltI x=true∧k'<s.size∧ltI y=true
        ·obtain ⟨g1,g2,g3⟩:=hgo;have hb2:=hbk g2
         have hk2:Hid ((∀j:Nat,i'.toNat+1≤j→j<(k'+1).toNat→isLt (l.getD j 0)=true)∧(isLt c=false→k'+1=i'+1)):=hid ⟨fun j a b=>by
          rcases Nat.lt_or_ge j k'.toNat with h|h
          ·exact hk.out.1 j a h
          ·rw [show j=k'.toNat by omega,←hd,←hlk];exact g3,fun h=>by rw [←hlc,g1] at h;cases h⟩
         clear hbk hd hlk hlc hk;go_wp2_with (go_at_call 61;refine (letter_any _ _).mono ?_;rintro e w' ⟨rfl,h'⟩;rw [h'])
         go_round
         case rel=>exact ⟨k'+1,rfl,by omega,by omega,hk2⟩
         case measure=>simp [intOf];omega
        ·have hex:ltI x=false∨(ltI x=true∧(s.size:Int)≤k')∨(ltI x=true∧k'<s.size∧ltI y=false):=by
          cases h1:ltI x
          ·exact .inl rfl
          ·by_cases h2:k'<s.size
           ·cases h3:ltI y
            ·exact .inr (.inr ⟨rfl,h2,rfl⟩)
            ·exact absurd ⟨h1,h2,h3⟩ hgo
           ·exact .inr (.inl ⟨rfl,by omega⟩)
         have hp:=hid (piece_row (k:=k'.toNat) hil (by omega) (by omega) HS.out hk.out.1 (fun a b=>by
          rw [←HC.out,←hlc] at a;rw [←hd,←hlk];rcases hex with h|⟨_,h⟩|⟨_,_,h⟩
          ·rw [h] at a;cases a
          ·omega
          ·exact h) (fun a=>by have:=hk.out.2 (by rw [HC.out];exact a);omega))
         clear hgo hk hd hlk hlc;obtain ⟨t,ht⟩:∃t,t=(l.drop i'.toNat).take (k'.toNat-i'.toNat):=⟨_,rfl⟩;have hex':(s.extract i'.toNat k'.toNat).data.toList=t:=by rw [Lib.extract_data,←hl,ht]
         have hsl:=fun W=>run_slice_string (P:=Tryz.prog) (w:=W) 9 s .i64 .i64 i' k' Tryz.underlying9 i0' (by omega) k1;have hS0:(s.extract i'.toNat k'.toNat).size≤1000000:=by rw [ByteArray.size_extract];omega
         obtain ⟨S,hSS⟩:∃S,S=s.extract i'.toNat k'.toNat:=⟨_,rfl⟩;simp only [←hSS] at hsl;rw [←hSS] at hex' hS0;have cO:=fun W=>of_any S W hS0;rw [hex'] at cO;obtain ⟨K,hK⟩:∃K:Int,K=(kd t:Int):=⟨_,rfl⟩;simp only [←hK] at cO;have hS:Hid (S=⟨t.toArray⟩):=hid (by rw [hSS,Lib.extract_eq,←hl,ht]);clear hSS hS0;by_cases hK0:K=0
         ·subst hK0;have hE:=hid (lexed_bad (by omega) (hst.out.1.bad (k:=k'.toNat) hil HS.out hp.out (by rw [←ht];omega)));have hBo:=hid hst.out.2.2;clear hex' hK ht hp hst;rcases hex with h1|⟨h1,h2⟩|⟨h1,h2,h3⟩
          all_goals
           try have hb2:=hbk h2
           clear hbk
           go_wp2_with (first
            | (go_at_call 61;refine (letter_any _ _).mono ?_;rintro e w' ⟨rfl,h'⟩;rw [h'])
            | (go_at_call 62;refine (cO _).mono ?_;rintro e w2 ⟨rfl,b2⟩))
           refine bodyPost_ret (v:=.tuple #[.slice none 0 0,.int .i64 3,.int .i64 L,.int .i64 C]) (by simp [results,Tryz.results22,go_sem]) rfl ?_;rw [hE.out];refine ⟨.slice none 0 0,?_,World.ownsRow_nil _ _ _ _,below_on hBo.out b2⟩;show Ending.returned (.tuple #[.slice none 0 0,.int .i64 3,.int .i64 L,.int .i64 C])=Ending.returned (.tuple #[.slice none 0 0,.int .i64 3,.int .i64 (L.toNat:Int),.int .i64 (C.toNat:Int)])
           rw [Int.toNat_of_nonneg (by omega),Int.toNat_of_nonneg (by omega)]
         ·have hTk:=hid (hst.out.1.tok (k:=k'.toNat) hil HS.out (by omega) hp.out (by rw [←ht];omega));have hcnt:=hst.out.1.count;have hn:acc.length+1≤8194:=by omega
          have hO:=hst.out.2.1;have hB:=hst.out.2.2;have hbase:=hB.size;have bK:(K==0)=false:=beq_eq_false_iff_ne.2 hK0;have HK:=hid hK;have HT:=hid ht;clear hex' hK ht hp hst hcnt hK0;have HO:=hid hO;have HB:=hid hB;clear hO hB;rcases hex with h1|⟨h1,h2⟩|⟨h1,h2,h3⟩
          all_goals
           try have hb2:=hbk h2
           clear hbk
           go_wp2_with (first
            | (go_at_call 61;refine (letter_any _ _).mono ?_;rintro e w' ⟨rfl,h'⟩;rw [h'])
            | (go_at_call 62;refine (cO _).mono ?_;rintro e w2 ⟨rfl,b2⟩;have HO2:=owns_below HO.out b2;have b2s:=b2.size)
            | (at_builtin;refine wpList_append_own _ rfl _ _ 69 rfl w.heap.size 76 i0 (.agg #[.int .i64 0,.string ⟨#[]⟩,.int .i64 0,.int .i64 0]) 4 40 und_toks hi hz0 hz1 hz2 rfl (by decide) _ _ _ rfl (HO2.alloc _) ⟨w2.heap.size,0,none⟩ 1 1 [.int .i64 K,.string S,.int .i64 L,.int .i64 C] rfl rfl (by
              intro j u hj
              match j,hj with
              | 0,hj=>simp at hj;subst hj;simp [Addr.add]
              | 1,hj=>simp at hj;subst hj;simp [Addr.add]
              | 2,hj=>simp at hj;subst hj;simp [Addr.add]
              | 3,hj=>simp at hj;subst hj;simp [Addr.add]) (by simp [Value.oneCell']) (by unfold maxLen;omega) (by omega) (by simp;omega) ?_))
           intro v' w1 hown hgrow _;go_wp2;go_roundw
           case rel=>exact ⟨L,C+(k'-i'),k',_,rfl,vi (by omega),rfl,by omega,by omega,by omega,by omega,by omega,by omega,hid ⟨by
            rw [show (C+(k'-i')).toNat=C.toNat+(k'.toNat-i'.toNat) by omega];exact hTk.out,by
            rw [tokCells_snoc,List.length_append,←HT.out,←hS.out];show w1.ownsRow _ _ _ _ _ (_++[.int .i64 (kd t:Int),.string S,.int .i64 (L.toNat:Int),.int .i64 (C.toNat:Int)])
            rw [Int.toNat_of_nonneg (by omega),Int.toNat_of_nonneg (by omega),←HK.out]
            exact hown,((below_on HB.out b2).alloc (by omega) _).grown hgrow (by simp;omega) (fun k hk=>(HO.out.lt k hk).1)⟩⟩
           case measure=>simp [intOf];omega
   ·obtain rfl:i'=s.size:=by omega
    obtain ⟨hR,hO,hB⟩:=hst.out;have hE:=hid (lexed_ok (by omega) (hR.stop (by omega)));have hcnt:=hR.count;have hn:acc.length+1≤8194:=by omega
    clear hcnt;have hsz:=hB.size;go_wp2_with (at_builtin;refine wpList_append_own _ rfl _ _ 69 rfl w.heap.size 76 i0 (.agg #[.int .i64 0,.string ⟨#[]⟩,.int .i64 0,.int .i64 0]) 4 40 und_toks hi hz0 hz1 hz2 rfl (by decide) _ _ _ rfl (hO.alloc _) ⟨wr.heap.size,0,none⟩ 1 1 [.int .i64 0,.string ⟨#[]⟩,.int .i64 L,.int .i64 C] rfl rfl ?c1 ?c2 ?c3 ?c4 ?c5 ?_)
    case c2=>exact ⟨rfl,rfl,rfl,rfl⟩
    case c3=>unfold maxLen;omega
    case c4=>omega
    case c5=>omega
    intro v' w1 hown hgrow _;go_wp2;refine bodyPost_ret (v:=.tuple #[v',.int .i64 0,.int .i64 0,.int .i64 0]) (by simp [results,Tryz.results22,go_sem]) rfl ?_;rw [hE.out];refine ⟨v',rfl,?_,(hB.alloc hB.size _).grown hgrow (by simp;omega) (fun k hk=>(hO.lt k hk).1)⟩;rw [tokCells_snoc,List.length_append];show w1.ownsRow _ _ _ _ _ (_++[.int .i64 0,.string ⟨#[]⟩,.int .i64 (L.toNat:Int),.int .i64 (C.toNat:Int)])
    rw [Int.toNat_of_nonneg (by omega),Int.toNat_of_nonneg (by omega)];exact hown
end R5
namespace Ex
open Go.RowKit P
theorem ret_2 {k:IntKind} {a b:Int} {p q:Bool} (h:a=b) (h':p=q):Ending.returned (.tuple #[.int k a,.bool p])=.returned (.tuple #[.int k b,.bool q]):=by rw [h,h']
theorem add_yes (a b:Int) (w:World) (h:I64 (a+b)) :
  Calls Tryz.prog 120 #[.int .i64 a,.int .i64 b] w fun e w'=>e=.returned (.tuple #[.int .i64 (a+b),.bool true])∧w=w':=by
 have ht:=add_test_yes h;have H:=hid (wrap_in h);clear h;go_enter Tryz.func120,Tryz.ntmps120
 go_wp2;go_ret2;exact ⟨ret_2 H.out rfl,rfl⟩
theorem add_no (a b:Int) (w:World) (ha:I64 a) (hb:I64 b) (h:¬ I64 (a+b)) :
  Calls Tryz.prog 120 #[.int .i64 a,.int .i64 b] w fun e w'=>e=.returned (.tuple #[.int .i64 0,.bool false])∧w=w':=by
 have ht:=add_test_no ha hb h;clear ha hb h;go_enter Tryz.func120,Tryz.ntmps120
 go_wp2;go_ret2;exact ⟨rfl,rfl⟩
theorem add_any (a b:Int) (w:World) (ha:I64 a) (hb:I64 b) :
  Calls Tryz.prog 120 #[.int .i64 a,.int .i64 b] w fun e w'=>e=.returned (.tuple #[.int .i64 (cut64 (a+b)),.bool (ok64 (a+b))])∧w=w':=by
 by_cases h:I64 (a+b)
 ·rw [cut64_t h,ok64_t h];exact add_yes a b w h
 ·rw [cut64_f h,ok64_f h];exact add_no a b w ha hb h
theorem sub_yes (a b:Int) (w:World) (h:I64 (a-b)) :
  Calls Tryz.prog 239 #[.int .i64 a,.int .i64 b] w fun e w'=>e=.returned (.tuple #[.int .i64 (a-b),.bool true])∧w=w':=by
 have ht:=sub_test_yes h;have H:=hid (wrap_in h);clear h;go_enter Tryz.func239,Tryz.ntmps239
 go_wp2;go_ret2;exact ⟨ret_2 H.out rfl,rfl⟩
theorem sub_no (a b:Int) (w:World) (ha:I64 a) (hb:I64 b) (h:¬ I64 (a-b)) :
  Calls Tryz.prog 239 #[.int .i64 a,.int .i64 b] w fun e w'=>e=.returned (.tuple #[.int .i64 0,.bool false])∧w=w':=by
 have ht:=sub_test_no ha hb h;clear ha hb h;go_enter Tryz.func239,Tryz.ntmps239
 go_wp2;go_ret2;exact ⟨rfl,rfl⟩
theorem sub_any (a b:Int) (w:World) (ha:I64 a) (hb:I64 b) :
  Calls Tryz.prog 239 #[.int .i64 a,.int .i64 b] w fun e w'=>e=.returned (.tuple #[.int .i64 (cut64 (a-b)),.bool (ok64 (a-b))])∧w=w':=by
 by_cases h:I64 (a-b)
 ·rw [cut64_t h,ok64_t h];exact sub_yes a b w h
 ·rw [cut64_f h,ok64_f h];exact sub_no a b w ha hb h
theorem mul_any (a b:Int) (w:World) (ha:I64 a) (hb:I64 b) :
  Calls Tryz.prog 223 #[.int .i64 a,.int .i64 b] w fun e w'=>e=.returned (.tuple #[.int .i64 (cut64 (a*b)),.bool (ok64 (a*b))])∧w=w':=by
 by_cases h0:a=0
 ·subst h0;rw [Int.zero_mul,cut64_t i64_0,ok64_t i64_0];clear ha hb;go_enter Tryz.func223,Tryz.ntmps223
  go_wp2;go_ret2;exact ⟨rfl,rfl⟩
 ·by_cases h1:a = -1
  ·subst h1;have e:(-1:Int)*b = -b:=by omega
   rw [e];clear e h0 ha;have hb':Hid (I64 b):=hid hb;clear hb;go_enter Tryz.func223,Tryz.ntmps223
   go_wp2_with (go_at_call 239;refine (sub_any _ _ _ i64_0 hb'.out).mono ?_;rintro e w' ⟨rfl,rfl⟩;simp only [Int.zero_sub])
   go_ret2;exact ⟨rfl,rfl⟩
  ·have e0:(a==0)=false:=by simpa using h0
   have e1:(a == -1)=false:=by simpa using h1
   by_cases h:I64 (a*b)
   ·have ht:(wrap64 ((wrap64 (a*b)).tdiv a) != b)=false:=by rw [mul_test_yes hb h0 h];simp
    have H:=hid (wrap_in h);have H2:=hid h;clear ha hb h h1;go_enter Tryz.func223,Tryz.ntmps223
    go_wp2;go_ret2;exact ⟨ret_2 (by rw [H.out,cut64_t H2.out]) (by rw [ok64_t H2.out]),rfl⟩
   ·have ht:(wrap64 ((wrap64 (a*b)).tdiv a) != b)=true:=by
     rcases mul_test_no ha h0 h with h2|h2
     ·simpa using h2
     ·exact absurd h2 h1
    rw [cut64_f h,ok64_f h];clear ha hb h h1;go_enter Tryz.func223,Tryz.ntmps223
    go_wp2;go_ret2;exact ⟨rfl,rfl⟩
end Ex
namespace R1
open Go.RowKit P
def wide (s:Bool) (m:Nat):Value:=.agg #[.bool s,.int .u64 (hiN m),.int .u64 (loN m)]
def W (v:Int):Value:=wide (decide (v<0)) v.natAbs
theorem wide_eq {s:Bool} {a b:Int} {m:Nat} (ha:a=hiN m) (hb:b=loN m):Value.agg #[.bool s,.int .u64 a,.int .u64 b]=wide s m:=by unfold wide;rw [ha,hb]
theorem of_any (a:Int) (w:World) (ha:I64 a) :
  Calls Tryz.prog 155 #[.int .i64 a] w fun e w'=>e=.returned (W a)∧Below w.heap.size w w':=by
 have hh:hiN a.natAbs=0:=hiN_small (by unfold I64 at ha;omega);have hl:loN a.natAbs=a.natAbs:=loN_small (by unfold I64 at ha;omega);by_cases h:a<0
 ·have e:IntKind.u64.wrap (IntKind.u64.wrap (wrap64 (-wrap64 (a+1)))+1)=loN a.natAbs:=by
   rw [hl,wrap_in (n:=a+1) (by unfold I64 at *;omega),wrap_in (n:=-(a+1)) (by unfold I64 at *;omega),u64_mod,u64_mod];unfold I64 at ha;omega
  have r:Value.agg #[.bool true,.int .u64 0,.int .u64 (IntKind.u64.wrap (IntKind.u64.wrap (wrap64 (-wrap64 (a+1)))+1))]=W a:=by
   unfold W;rw [decide_eq_true h];exact wide_eq (by rw [hh];rfl) e
  have R:=hid r;clear r e hh hl ha;go_enter Tryz.func155,Tryz.ntmps155
  go_wp2
  exact bodyPost_ret (v:=.agg #[.bool true,.int .u64 0,.int .u64 (IntKind.u64.wrap (IntKind.u64.wrap (wrap64 (-wrap64 (a+1)))+1))])
   (by simp [results,Tryz.results155,go_sem]) rfl ⟨by rw [R.out],(Below.refl _ _).alloc (Nat.le_refl _) _⟩
 ·have e:IntKind.u64.wrap a=loN a.natAbs:=by rw [hl,u64_mod];unfold I64 at ha;omega
  have r:Value.agg #[.bool false,.int .u64 0,.int .u64 (IntKind.u64.wrap a)]=W a:=by
   unfold W;rw [decide_eq_false h];exact wide_eq (by rw [hh];rfl) e
  have R:=hid r;clear r e hh hl ha;go_enter Tryz.func155,Tryz.ntmps155
  go_wp2
  exact bodyPost_ret (v:=.agg #[.bool false,.int .u64 0,.int .u64 (IntKind.u64.wrap a)])
   (by simp [results,Tryz.results155,go_sem]) rfl ⟨by rw [R.out],(Below.refl _ _).alloc (Nat.le_refl _) _⟩
theorem zero_any (s:Bool) (m:Nat) (w:World) :
  Calls Tryz.prog 197 #[wide s m] w fun e w'=>e=.returned (.bool (m==0))∧Below w.heap.size w w':=by
 rw [←zero_iff];unfold wide;rcases Bool.eq_false_or_eq_true (((hiN m:Nat):Int)==0) with h|h
 all_goals
  go_enter Tryz.func197,Tryz.ntmps197
  go_wp2;go_ret;exact ⟨by rw [h];simp,(Below.refl _ _).alloc (Nat.le_refl _) _⟩
theorem plus_any (s t:Bool) (m n:Nat) (w:World) (hs:m+n<two128) :
  Calls Tryz.prog 196 #[wide s m,wide t n] w fun e w'=>e=.returned (wide false (m+n))∧Below w.heap.size w w':=by
 have el:=plus_lo m n;by_cases h:18446744073709551616≤loN m+loN n
 ·have ht:=plus_test_yes h;have r:Value.agg #[.bool false,.int .u64 (IntKind.u64.wrap (IntKind.u64.wrap ((hiN m:Int)+(hiN n:Int))+1)),.int .u64 (IntKind.u64.wrap ((loN m:Int)+(loN n:Int)))]=wide false (m+n):=wide_eq (plus_hi_yes hs h) el;have R:=hid r;clear r el h hs;unfold wide;go_enter Tryz.func196,Tryz.ntmps196
  go_wp2
  exact bodyPost_ret (v:=.agg #[.bool false,.int .u64 (IntKind.u64.wrap (IntKind.u64.wrap ((hiN m:Int)+(hiN n:Int))+1)),.int .u64 (IntKind.u64.wrap ((loN m:Int)+(loN n:Int)))])
   (by simp [results,Tryz.results196,go_sem]) rfl ⟨by rw [R.out];rfl,((((Below.refl _ _).alloc (Nat.le_refl _) _).alloc (by simp) _).alloc (by first|omega|(simp<;>omega)) _)⟩
 ·have ht:=plus_test_no h;have r:Value.agg #[.bool false,.int .u64 (IntKind.u64.wrap ((hiN m:Int)+(hiN n:Int))),.int .u64 (IntKind.u64.wrap ((loN m:Int)+(loN n:Int)))]=wide false (m+n):=wide_eq (plus_hi_no hs h) el;have R:=hid r;clear r el h hs;unfold wide;go_enter Tryz.func196,Tryz.ntmps196
  go_wp2
  exact bodyPost_ret (v:=.agg #[.bool false,.int .u64 (IntKind.u64.wrap ((hiN m:Int)+(hiN n:Int))),.int .u64 (IntKind.u64.wrap ((loN m:Int)+(loN n:Int)))])
   (by simp [results,Tryz.results196,go_sem]) rfl ⟨by rw [R.out];rfl,((((Below.refl _ _).alloc (Nat.le_refl _) _).alloc (by simp) _).alloc (by first|omega|(simp<;>omega)) _)⟩
theorem minus_any (s t:Bool) (m n:Nat) (w:World) (hs:m<two128) (hn:n≤m) :
  Calls Tryz.prog 199 #[wide s m,wide t n] w fun e w'=>e=.returned (wide false (m-n))∧Below w.heap.size w w':=by
 have el:=minus_lo hn;by_cases h:loN m<loN n
 ·have ht:=min_test_yes h;have r:Value.agg #[.bool false,.int .u64 (IntKind.u64.wrap (IntKind.u64.wrap ((hiN m:Int)-(hiN n:Int))-1)),.int .u64 (IntKind.u64.wrap ((loN m:Int)-(loN n:Int)))]=wide false (m-n):=wide_eq (minus_hi_yes hs hn h) el;have R:=hid r;clear r el h hs hn;unfold wide;go_enter Tryz.func199,Tryz.ntmps199
  go_wp2
  exact bodyPost_ret (v:=.agg #[.bool false,.int .u64 (IntKind.u64.wrap (IntKind.u64.wrap ((hiN m:Int)-(hiN n:Int))-1)),.int .u64 (IntKind.u64.wrap ((loN m:Int)-(loN n:Int)))])
   (by simp [results,Tryz.results199,go_sem]) rfl ⟨by rw [R.out];rfl,((((Below.refl _ _).alloc (Nat.le_refl _) _).alloc (by simp) _).alloc (by first|omega|(simp<;>omega)) _)⟩
 ·have ht:=min_test_no h;have r:Value.agg #[.bool false,.int .u64 (IntKind.u64.wrap ((hiN m:Int)-(hiN n:Int))),.int .u64 (IntKind.u64.wrap ((loN m:Int)-(loN n:Int)))]=wide false (m-n):=wide_eq (minus_hi_no hs hn h) el;have R:=hid r;clear r el h hs hn;unfold wide;go_enter Tryz.func199,Tryz.ntmps199
  go_wp2
  exact bodyPost_ret (v:=.agg #[.bool false,.int .u64 (IntKind.u64.wrap ((hiN m:Int)-(hiN n:Int))),.int .u64 (IntKind.u64.wrap ((loN m:Int)-(loN n:Int)))])
   (by simp [results,Tryz.results199,go_sem]) rfl ⟨by rw [R.out];rfl,((((Below.refl _ _).alloc (Nat.le_refl _) _).alloc (by simp) _).alloc (by first|omega|(simp<;>omega)) _)⟩
theorem size_any (s t:Bool) (m n:Nat) (w:World) :
  Calls Tryz.prog 198 #[wide s m,wide t n] w fun e w'=>e=.returned (.bool (decide (m<n)))∧Below w.heap.size w w':=by
 rw [←size_iff];unfold wide;rcases Bool.eq_false_or_eq_true (decide (hiN m<hiN n)) with h|h
 ·go_enter Tryz.func198,Tryz.ntmps198
  go_wp2;go_ret;exact ⟨by simp [h],((Below.refl _ _).alloc (Nat.le_refl _) _).alloc (by simp) _⟩
 ·rcases Bool.eq_false_or_eq_true ((hiN m:Int)==(hiN n:Int)) with h'|h'
  all_goals
   go_enter Tryz.func198,Tryz.ntmps198
   go_wp2;go_ret;exact ⟨by simp only [h,h',Bool.false_or,Bool.true_and,Bool.false_and];rfl,((Below.refl _ _).alloc (Nat.le_refl _) _).alloc (by simp) _⟩
theorem bcell {W w1:World} (hb:Below W.heap.size W w1):(∀b o,b<W.heap.size→w1.cell? ⟨b,o,none⟩=W.cell? ⟨b,o,none⟩)∧(∀b o,b<W.heap.size→w1.frozen? ⟨b,o,none⟩=W.frozen? ⟨b,o,none⟩):=
 ⟨fun b o h=>hb.cell (p:=⟨b,o,none⟩) h,fun b o h=>hb.frozen (p:=⟨b,o,none⟩) h⟩
theorem below_via {B:Nat} {w W w1:World} (h:Below B w W) (hb:Below W.heap.size W w1) (hB:B≤W.heap.size):Below B w w1:=h.trans (hb.mono hB)
theorem add_like (s:Bool) (m n:Nat) (w:World) (hs:m+n<two128) (h0:s=true→(m+n==0)=false) :
  Calls Tryz.prog 154 #[wide s m,wide s n] w fun e w'=>e=.returned (wide s (m+n))∧Below w.heap.size w w':=by
 have HS:=hid hs;clear hs;cases s
 ·have H0:=hid h0;clear h0;unfold wide;go_enter Tryz.func154,Tryz.ntmps154
  go_wp2_with fail
  refine (plus_any _ _ _ _ _ HS.out).mono ?_;rintro e w1 ⟨rfl,hb1⟩;unfold wide;obtain ⟨hc1,hf1⟩:=bcell hb1;obtain ⟨k0,k1,k2⟩:w.heap.size<w1.heap.size∧w.heap.size+1<w1.heap.size∧w.heap.size+1+1<w1.heap.size:=by have:=hb1.size;simp at this;omega
  go_wp2
  refine bodyPost_ret (v:=.agg #[.bool false,.int .u64 (hiN (m+n)),.int .u64 (loN (m+n))])
   (by simp only [results,Tryz.results154];go_simp) rfl ⟨rfl,?_⟩
  repeat (first|(refine Below.setCell ?_ (by first|omega|(simp<;>omega)) _)|(refine Below.alloc ?_ (by first|omega|(simp<;>omega)) _)|(refine below_via ?_ hb1 (by first|omega|(simp<;>omega)))|exact Below.refl _ _)
 ·have h1:(m+n==0)=false:=h0 rfl;clear h0;unfold wide;go_enter Tryz.func154,Tryz.ntmps154
  go_wp2_with fail
  refine (plus_any _ _ _ _ _ HS.out).mono ?_;rintro e w1 ⟨rfl,hb1⟩;unfold wide;obtain ⟨hc1,hf1⟩:=bcell hb1;obtain ⟨k0,k1,k2⟩:w.heap.size<w1.heap.size∧w.heap.size+1<w1.heap.size∧w.heap.size+1+1<w1.heap.size:=by have:=hb1.size;simp at this;omega
  go_wp2_with fail
  refine (zero_any _ _ _).mono ?_;rintro e w2 ⟨rfl,hb2⟩;rw [h1];obtain ⟨hc2,hf2⟩:=bcell hb2;have k3:w1.heap.size<w2.heap.size:=by have:=hb2.size;simp at this;omega
  obtain ⟨k4,k5,k6⟩:w.heap.size<w2.heap.size∧w.heap.size+1<w2.heap.size∧w.heap.size+1+1<w2.heap.size:=⟨by omega,by omega,by omega⟩;go_wp2
  refine bodyPost_ret (v:=.agg #[.bool true,.int .u64 (hiN (m+n)),.int .u64 (loN (m+n))])
   (by simp only [results,Tryz.results154];go_simp) rfl ⟨rfl,?_⟩
  repeat (first|(refine Below.setCell ?_ (by first|omega|(simp<;>omega)) _)|(refine Below.alloc ?_ (by first|omega|(simp<;>omega)) _)|(refine below_via ?_ hb2 (by first|omega|(simp<;>omega)))|(refine below_via ?_ hb1 (by first|omega|(simp<;>omega)))|exact Below.refl _ _)
theorem add_tf_lt (m n:Nat) (w:World) (hm:m<two128) (hn:n<two128) (h:m<n) :
  Calls Tryz.prog 154 #[wide true m,wide false n] w fun e w'=>e=.returned (wide false (n-m))∧Below w.heap.size w w':=by
 have ht:decide (m<n)=true:=by simp;omega
 have HM:=hid hm;have HN:=hid hn;have H:=hid h;clear hm hn h;unfold wide;go_enter Tryz.func154,Tryz.ntmps154
 go_wp2_with fail
 refine (size_any _ _ _ _ _).mono ?_;rintro e w1 ⟨rfl,hb1⟩;rw [ht];obtain ⟨hc1,hf1⟩:=bcell hb1;obtain ⟨k0,k1,k2⟩:w.heap.size<w1.heap.size∧w.heap.size+1<w1.heap.size∧w.heap.size+1+1<w1.heap.size:=by have:=hb1.size;simp at this;omega
 go_wp2_with fail
 refine (minus_any _ _ _ _ _ HN.out (by have:=H.out;omega)).mono ?_;rintro e w2 ⟨rfl,hb2⟩;unfold wide;obtain ⟨hc2,hf2⟩:=bcell hb2;have j0:w1.heap.size≤w2.heap.size:=hb2.size;obtain ⟨j1,j2,j3⟩:w.heap.size<w2.heap.size∧w.heap.size+1<w2.heap.size∧w.heap.size+1+1<w2.heap.size:=⟨by omega,by omega,by omega⟩;go_wp2
 refine bodyPost_ret (v:=.agg #[.bool false,.int .u64 (hiN (n-m)),.int .u64 (loN (n-m))])
  (by simp only [results,Tryz.results154];go_simp) rfl ⟨rfl,?_⟩
 repeat (first|(refine Below.setCell ?_ (by first|omega|(simp<;>omega)) _)|(refine Below.alloc ?_ (by first|omega|(simp<;>omega)) _)|(refine below_via ?_ hb2 (by first|omega|(simp<;>omega)))|(refine below_via ?_ hb1 (by first|omega|(simp<;>omega)))|exact Below.refl _ _)
theorem add_ft_lt (m n:Nat) (w:World) (hm:m<two128) (hn:n<two128) (h:m<n) (h0:(n-m==0)=false) :
  Calls Tryz.prog 154 #[wide false m,wide true n] w fun e w'=>e=.returned (wide true (n-m))∧Below w.heap.size w w':=by
 have ht:decide (m<n)=true:=by simp;omega
 have HM:=hid hm;have HN:=hid hn;have H:=hid h;clear hm hn h;unfold wide;go_enter Tryz.func154,Tryz.ntmps154
 go_wp2_with fail
 refine (size_any _ _ _ _ _).mono ?_;rintro e w1 ⟨rfl,hb1⟩;rw [ht];obtain ⟨hc1,hf1⟩:=bcell hb1;obtain ⟨k0,k1,k2⟩:w.heap.size<w1.heap.size∧w.heap.size+1<w1.heap.size∧w.heap.size+1+1<w1.heap.size:=by have:=hb1.size;simp at this;omega
 go_wp2_with fail
 refine (minus_any _ _ _ _ _ HN.out (by have:=H.out;omega)).mono ?_;rintro e w2 ⟨rfl,hb2⟩;unfold wide;obtain ⟨hc2,hf2⟩:=bcell hb2;have j0:w1.heap.size≤w2.heap.size:=hb2.size;obtain ⟨j1,j2,j3⟩:w.heap.size<w2.heap.size∧w.heap.size+1<w2.heap.size∧w.heap.size+1+1<w2.heap.size:=⟨by omega,by omega,by omega⟩;go_wp2_with fail
 refine (zero_any _ _ _).mono ?_;rintro e w3 ⟨rfl,hb3⟩;rw [h0];obtain ⟨hc3,hf3⟩:=bcell hb3;have i0:w2.heap.size<w3.heap.size:=by have:=hb3.size;simp at this;omega
 obtain ⟨i1,i2,i3⟩:w.heap.size<w3.heap.size∧w.heap.size+1<w3.heap.size∧w.heap.size+1+1<w3.heap.size:=⟨by omega,by omega,by omega⟩;go_wp2
 refine bodyPost_ret (v:=.agg #[.bool true,.int .u64 (hiN (n-m)),.int .u64 (loN (n-m))])
  (by simp only [results,Tryz.results154];go_simp) rfl ⟨rfl,?_⟩
 repeat (first|(refine Below.setCell ?_ (by first|omega|(simp<;>omega)) _)|(refine Below.alloc ?_ (by first|omega|(simp<;>omega)) _)|(refine below_via ?_ hb3 (by first|omega|(simp<;>omega)))|(refine below_via ?_ hb2 (by first|omega|(simp<;>omega)))|(refine below_via ?_ hb1 (by first|omega|(simp<;>omega)))|exact Below.refl _ _)
theorem add_ft_ge (m n:Nat) (w:World) (hm:m<two128) (hn:n<two128) (h:n≤m) :
  Calls Tryz.prog 154 #[wide false m,wide true n] w fun e w'=>e=.returned (wide false (m-n))∧Below w.heap.size w w':=by
 have ht:decide (m<n)=false:=by simp;omega
 have HM:=hid hm;have HN:=hid hn;have H:=hid h;clear hm hn h;unfold wide;go_enter Tryz.func154,Tryz.ntmps154
 go_wp2_with fail
 refine (size_any _ _ _ _ _).mono ?_;rintro e w1 ⟨rfl,hb1⟩;rw [ht];obtain ⟨hc1,hf1⟩:=bcell hb1;obtain ⟨k0,k1,k2⟩:w.heap.size<w1.heap.size∧w.heap.size+1<w1.heap.size∧w.heap.size+1+1<w1.heap.size:=by have:=hb1.size;simp at this;omega
 go_wp2_with fail
 refine (minus_any _ _ _ _ _ HM.out (by have:=H.out;omega)).mono ?_;rintro e w2 ⟨rfl,hb2⟩;unfold wide;obtain ⟨hc2,hf2⟩:=bcell hb2;have j0:w1.heap.size≤w2.heap.size:=hb2.size;obtain ⟨j1,j2,j3⟩:w.heap.size<w2.heap.size∧w.heap.size+1<w2.heap.size∧w.heap.size+1+1<w2.heap.size:=⟨by omega,by omega,by omega⟩;go_wp2
 refine bodyPost_ret (v:=.agg #[.bool false,.int .u64 (hiN (m-n)),.int .u64 (loN (m-n))])
  (by simp only [results,Tryz.results154];go_simp) rfl ⟨rfl,?_⟩
 repeat (first|(refine Below.setCell ?_ (by first|omega|(simp<;>omega)) _)|(refine Below.alloc ?_ (by first|omega|(simp<;>omega)) _)|(refine below_via ?_ hb2 (by first|omega|(simp<;>omega)))|(refine below_via ?_ hb1 (by first|omega|(simp<;>omega)))|exact Below.refl _ _)
theorem add_tf_gt (m n:Nat) (w:World) (hm:m<two128) (hn:n<two128) (h:n≤m) (h0:(m-n==0)=false) :
  Calls Tryz.prog 154 #[wide true m,wide false n] w fun e w'=>e=.returned (wide true (m-n))∧Below w.heap.size w w':=by
 have ht:decide (m<n)=false:=by simp;omega
 have HM:=hid hm;have HN:=hid hn;have H:=hid h;clear hm hn h;unfold wide;go_enter Tryz.func154,Tryz.ntmps154
 go_wp2_with fail
 refine (size_any _ _ _ _ _).mono ?_;rintro e w1 ⟨rfl,hb1⟩;rw [ht];obtain ⟨hc1,hf1⟩:=bcell hb1;obtain ⟨k0,k1,k2⟩:w.heap.size<w1.heap.size∧w.heap.size+1<w1.heap.size∧w.heap.size+1+1<w1.heap.size:=by have:=hb1.size;simp at this;omega
 go_wp2_with fail
 refine (minus_any _ _ _ _ _ HM.out (by have:=H.out;omega)).mono ?_;rintro e w2 ⟨rfl,hb2⟩;unfold wide;obtain ⟨hc2,hf2⟩:=bcell hb2;have j0:w1.heap.size≤w2.heap.size:=hb2.size;obtain ⟨j1,j2,j3⟩:w.heap.size<w2.heap.size∧w.heap.size+1<w2.heap.size∧w.heap.size+1+1<w2.heap.size:=⟨by omega,by omega,by omega⟩;go_wp2_with fail
 refine (zero_any _ _ _).mono ?_;rintro e w3 ⟨rfl,hb3⟩;rw [h0];obtain ⟨hc3,hf3⟩:=bcell hb3;have i0:w2.heap.size<w3.heap.size:=by have:=hb3.size;simp at this;omega
 obtain ⟨i1,i2,i3⟩:w.heap.size<w3.heap.size∧w.heap.size+1<w3.heap.size∧w.heap.size+1+1<w3.heap.size:=⟨by omega,by omega,by omega⟩;go_wp2
 refine bodyPost_ret (v:=.agg #[.bool true,.int .u64 (hiN (m-n)),.int .u64 (loN (m-n))])
  (by simp only [results,Tryz.results154];go_simp) rfl ⟨rfl,?_⟩
 repeat (first|(refine Below.setCell ?_ (by first|omega|(simp<;>omega)) _)|(refine Below.alloc ?_ (by first|omega|(simp<;>omega)) _)|(refine below_via ?_ hb3 (by first|omega|(simp<;>omega)))|(refine below_via ?_ hb2 (by first|omega|(simp<;>omega)))|(refine below_via ?_ hb1 (by first|omega|(simp<;>omega)))|exact Below.refl _ _)
theorem add_tf_eq (m n:Nat) (w:World) (hm:m<two128) (hn:n<two128) (h:n≤m) (h0:(m-n==0)=true) :
  Calls Tryz.prog 154 #[wide true m,wide false n] w fun e w'=>e=.returned (wide false (m-n))∧Below w.heap.size w w':=by
 have ht:decide (m<n)=false:=by simp;omega
 have HM:=hid hm;have HN:=hid hn;have H:=hid h;clear hm hn h;unfold wide;go_enter Tryz.func154,Tryz.ntmps154
 go_wp2_with fail
 refine (size_any _ _ _ _ _).mono ?_;rintro e w1 ⟨rfl,hb1⟩;rw [ht];obtain ⟨hc1,hf1⟩:=bcell hb1;obtain ⟨k0,k1,k2⟩:w.heap.size<w1.heap.size∧w.heap.size+1<w1.heap.size∧w.heap.size+1+1<w1.heap.size:=by have:=hb1.size;simp at this;omega
 go_wp2_with fail
 refine (minus_any _ _ _ _ _ HM.out (by have:=H.out;omega)).mono ?_;rintro e w2 ⟨rfl,hb2⟩;unfold wide;obtain ⟨hc2,hf2⟩:=bcell hb2;have j0:w1.heap.size≤w2.heap.size:=hb2.size;obtain ⟨j1,j2,j3⟩:w.heap.size<w2.heap.size∧w.heap.size+1<w2.heap.size∧w.heap.size+1+1<w2.heap.size:=⟨by omega,by omega,by omega⟩;go_wp2_with fail
 refine (zero_any _ _ _).mono ?_;rintro e w3 ⟨rfl,hb3⟩;rw [h0];obtain ⟨hc3,hf3⟩:=bcell hb3;have i0:w2.heap.size<w3.heap.size:=by have:=hb3.size;simp at this;omega
 obtain ⟨i1,i2,i3⟩:w.heap.size<w3.heap.size∧w.heap.size+1<w3.heap.size∧w.heap.size+1+1<w3.heap.size:=⟨by omega,by omega,by omega⟩;go_wp2
 refine bodyPost_ret (v:=.agg #[.bool false,.int .u64 (hiN (m-n)),.int .u64 (loN (m-n))])
  (by simp only [results,Tryz.results154];go_simp) rfl ⟨rfl,?_⟩
 repeat (first|(refine Below.setCell ?_ (by first|omega|(simp<;>omega)) _)|(refine Below.alloc ?_ (by first|omega|(simp<;>omega)) _)|(refine below_via ?_ hb3 (by first|omega|(simp<;>omega)))|(refine below_via ?_ hb2 (by first|omega|(simp<;>omega)))|(refine below_via ?_ hb1 (by first|omega|(simp<;>omega)))|exact Below.refl _ _)
theorem add_any (u v:Int) (w:World) (hu:u.natAbs<two127) (hv:v.natAbs<two127) :
  Calls Tryz.prog 154 #[W u,W v] w fun e w'=>e=.returned (W (u+v))∧Below w.heap.size w w':=by
 have hu2:u.natAbs<two128:=by unfold two127 at hu;unfold two128;omega
 have hv2:v.natAbs<two128:=by unfold two127 at hv;unfold two128;omega
 have huv:u.natAbs+v.natAbs<two128:=by unfold two127 at hu hv;unfold two128;omega
 unfold W;by_cases hu0:u<0
 ·by_cases hv0:v<0
  ·have e1:(u+v).natAbs=u.natAbs+v.natAbs:=by omega
   rw [decide_eq_true hu0,decide_eq_true hv0,decide_eq_true (show u+v<0 by omega),e1];exact add_like true _ _ w huv (fun _=>by simp;omega)
  ·by_cases hc:u.natAbs<v.natAbs
   ·have e1:(u+v).natAbs=v.natAbs-u.natAbs:=by omega
    rw [decide_eq_true hu0,decide_eq_false hv0,decide_eq_false (show ¬ u+v<0 by omega),e1];exact add_tf_lt _ _ w hu2 hv2 hc
   ·have e1:(u+v).natAbs=u.natAbs-v.natAbs:=by omega
    by_cases hz:u.natAbs=v.natAbs
    ·rw [decide_eq_true hu0,decide_eq_false hv0,decide_eq_false (show ¬ u+v<0 by omega),e1];exact add_tf_eq _ _ w hu2 hv2 (by omega) (by simp;omega)
    ·rw [decide_eq_true hu0,decide_eq_false hv0,decide_eq_true (show u+v<0 by omega),e1];exact add_tf_gt _ _ w hu2 hv2 (by omega) (by simp;omega)
 ·by_cases hv0:v<0
  ·by_cases hc:u.natAbs<v.natAbs
   ·have e1:(u+v).natAbs=v.natAbs-u.natAbs:=by omega
    rw [decide_eq_false hu0,decide_eq_true hv0,decide_eq_true (show u+v<0 by omega),e1];exact add_ft_lt _ _ w hu2 hv2 hc (by simp;omega)
   ·have e1:(u+v).natAbs=u.natAbs-v.natAbs:=by omega
    rw [decide_eq_false hu0,decide_eq_true hv0,decide_eq_false (show ¬ u+v<0 by omega),e1];exact add_ft_ge _ _ w hu2 hv2 (by omega)
  ·have e1:(u+v).natAbs=u.natAbs+v.natAbs:=by omega
   rw [decide_eq_false hu0,decide_eq_false hv0,decide_eq_false (show ¬ u+v<0 by omega),e1];exact add_like false _ _ w huv (fun h=>by cases h)
theorem opposite_any (v:Int) (w:World) :
  Calls Tryz.prog 194 #[W v] w fun e w'=>e=.returned (W (-v))∧Below w.heap.size w w':=by
 by_cases h0:v=0
 ·subst h0;have hz:((0:Int).natAbs==0)=true:=rfl;show Calls _ _ #[wide false 0] w fun e w'=>e=.returned (wide false 0)∧Below w.heap.size w w'
  unfold wide;go_enter Tryz.func194,Tryz.ntmps194
  go_wp2_with fail
  refine (zero_any _ _ _).mono ?_;rintro e w1 ⟨rfl,hb1⟩;rw [show ((0:Nat)==0)=true from rfl];obtain ⟨hc1,hf1⟩:=bcell hb1;obtain ⟨k0,k1⟩:w.heap.size<w1.heap.size∧w.heap.size+1<w1.heap.size:=by have:=hb1.size;simp at this;omega
  go_wp2
  refine bodyPost_ret (v:=.agg #[.bool false,.int .u64 (hiN 0),.int .u64 (loN 0)])
   (by simp only [results,Tryz.results194];go_simp) rfl ⟨rfl,?_⟩
  repeat (first|(refine Below.setCell ?_ (by first|omega|(simp<;>omega)) _)|(refine Below.alloc ?_ (by first|omega|(simp<;>omega)) _)|(refine below_via ?_ hb1 (by first|omega|(simp<;>omega)))|exact Below.refl _ _)
 ·have hz:(v.natAbs==0)=false:=by simp;omega
  have e1:decide (-v<0) = !(decide (v<0)):=by rw [←decide_not,decide_eq_decide];omega
  unfold W;rw [e1,Int.natAbs_neg];generalize decide (v<0)=s;clear e1 h0;generalize v.natAbs=m at *;unfold wide;go_enter Tryz.func194,Tryz.ntmps194
  go_wp2_with fail
  refine (zero_any _ _ _).mono ?_;rintro e w1 ⟨rfl,hb1⟩;rw [hz];obtain ⟨hc1,hf1⟩:=bcell hb1;obtain ⟨k0,k1⟩:w.heap.size<w1.heap.size∧w.heap.size+1<w1.heap.size:=by have:=hb1.size;simp at this;omega
  go_wp2
  refine bodyPost_ret (v:=.agg #[.bool (!s),.int .u64 (hiN m),.int .u64 (loN m)])
   (by simp only [results,Tryz.results194];go_simp) rfl ⟨rfl,?_⟩
  repeat (first|(refine Below.setCell ?_ (by first|omega|(simp<;>omega)) _)|(refine Below.alloc ?_ (by first|omega|(simp<;>omega)) _)|(refine below_via ?_ hb1 (by first|omega|(simp<;>omega)))|exact Below.refl _ _)
end R1
end Go.Proofs.YtofbobdhkbmbgaaGreatDoor
