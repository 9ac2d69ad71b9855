/- What the document's answers for layer 7 (poundageref07) come to: take, want, token, number. -/
import Derived.Test.YtjgogpaedaffkaaGreatJRef7
set_option maxHeartbeats 2000000
namespace Go.Proofs.YtjgogpaedaffkaaGreat
namespace P
end P
namespace Tl
end Tl
namespace R7
open Go.RowKit Go.Sort P Tl
theorem take_any (b tb cap:Nat) (ts:List Tok) (s:St) (l:ByteArray) (w:World) (h:Ps w b tb cap ts s) :
  Calls Tryz.prog 53 #[.pointer (some ⟨b,0,none⟩),.string l] w fun x w'=>x=.returned (.bool (tke ts s l.data.toList).1)∧Ps w' b tb cap ts (tke ts s l.data.toList).2∧w.grownBy w' (some b):=by
 have cO:=on_any b tb cap ts s l w h;have H:=hid h;cases ho:onW ts s l.data.toList
 ·have e:tke ts s l.data.toList=(false,s):=by unfold tke;rw [ho];rfl
  rw [e];rw [ho] at cO;clear e ho h;go_enter Tryz.func53,Tryz.ntmps53
  go_wp2_with (go_at_call 81;refine cO.mono ?_;rintro e w1 ⟨rfl,b1⟩)
  go_ret;exact ⟨rfl,H.out.on b1,grown_below b1⟩
 ·have e:tke ts s l.data.toList=(true,s.next):=by unfold tke;rw [ho];rfl
  rw [e];rw [ho] at cO;have hn:=hid (h.ok.next (onW_k ho));have hcn:=h.cnt;have hlt:=h.ok.lt;have i1:(s.i:Int)+1≤9223372036854775807:=by omega
  clear e ho h;go_enter Tryz.func53,Tryz.ntmps53
  go_wp2_with (go_at_call 81;refine cO.mono ?_;rintro e w1 ⟨rfl,b1⟩;have Q:=H.out.on b1;have c1:=Q.c1;have f1:=Q.fr 1;have HQ:=hid Q;clear Q)
  go_ret;exact ⟨rfl,HQ.out.step hn.out,grown_trans (grown_below b1) (grown_set _ _ _ _)⟩
theorem want_any (b tb cap:Nat) (ts:List Tok) (s:St) (l:ByteArray) (w:World) (h:Ps w b tb cap ts s) :
  Calls Tryz.prog 22 #[.pointer (some ⟨b,0,none⟩),.string l] w fun x w'=>x=.returned (.tuple #[])∧Ps w' b tb cap ts (wnt ts s l.data.toList)∧w.grownBy w' (some b):=by
 have cT:=take_any b tb cap ts s l w h;cases ho:onW ts s l.data.toList
 ·have e:tke ts s l.data.toList=(false,s):=by unfold tke;rw [ho];rfl
  have e2:wnt ts s l.data.toList=wrg ts s 4:=by unfold wnt;rw [ho];rfl
  rw [e2];rw [e] at cT;clear e e2 ho h;go_enter Tryz.func22,Tryz.ntmps22
  go_wp2_with (first
   | (go_at_call 53;refine cT.mono ?_;rintro e w1 ⟨rfl,q1,g1⟩;have Q1:=hid q1;clear q1)
   | (go_at_call 29;refine (wrong_any _ _ _ _ _ _ _ Q1.out).mono ?_;rintro e w2 ⟨rfl,q2,g2⟩;have Q2:=hid q2;clear q2))
  go_end0
  exact ⟨rfl,Q2.out,grown_trans g1 g2⟩
 ·have e:tke ts s l.data.toList=(true,s.next):=by unfold tke;rw [ho];rfl
  have e2:wnt ts s l.data.toList=s.next:=by unfold wnt;rw [ho];rfl
  rw [e2];rw [e] at cT;clear e e2 ho h;go_enter Tryz.func22,Tryz.ntmps22
  go_wp2_with (go_at_call 53;refine cT.mono ?_;rintro e w1 ⟨rfl,q1,g1⟩;have Q1:=hid q1;clear q1)
  go_end0
  exact ⟨rfl,Q1.out,g1⟩
theorem token_any (b tb cap:Nat) (ts:List Tok) (s:St) (k:Nat) (hk:k≠0) (w:World) (h:Ps w b tb cap ts s) :
  Calls Tryz.prog 23 #[.pointer (some ⟨b,0,none⟩),.int .i64 k] w fun x w'=>x=.returned (.string ⟨(tkn ts s k).1.toArray⟩)∧Ps w' b tb cap ts (tkn ts s k).2∧w.grownBy w' (some b):=by
 have H:=hid h;have hb:=h.lt;have ht:=h.tl;have c0:=h.c0;have c1:=h.c1;have i1:(0:Int)≤s.i:=by omega
 have i2:(s.i:Int)<ts.length:=by have:=h.ok.lt;omega
 have hc:=h.cnt;obtain ⟨a0,a1,a2,a3⟩:=h.at
 have KP:Hid (∀w',Below w.heap.size w w'→w'.cell? ⟨b,0,none⟩=some (.slice (some ⟨tb,0,none⟩) ts.length cap)∧w'.cell? ⟨b,1,none⟩=some (.int .i64 s.i)∧w'.cell? ⟨tb,s.i*4,none⟩=some (.int .i64 (tk ts s).k)∧w'.cell? ⟨tb,s.i*4+1,none⟩=some (.string ⟨(tk ts s).t.toArray⟩)∧w'.cell? ⟨tb,s.i*4+2,none⟩=some (.int .i64 (tk ts s).ln)∧w'.cell? ⟨tb,s.i*4+3,none⟩=some (.int .i64 (tk ts s).cl)∧Below w.heap.size w w'):=hid fun w' hb=>by
  have h':=H.out.on hb;exact ⟨h'.c0,h'.c1,h'.at.1,h'.at.2.1,h'.at.2.2.1,h'.at.2.2.2,hb⟩
 obtain ⟨RS,hRS⟩:∃RS,RS=tkn ts s k:=⟨_,rfl⟩;rw [←hRS];replace hRS:=hid hRS;clear h;go_enter Tryz.func23,Tryz.ntmps23
 go_upto_region 1 with fail
 go_region_held3 (fun w'=>w'.cell? ⟨b,0,none⟩=some (.slice (some ⟨tb,0,none⟩) ts.length cap)∧w'.cell? ⟨b,1,none⟩=some (.int .i64 s.i)∧w'.cell? ⟨tb,s.i*4,none⟩=some (.int .i64 (tk ts s).k)∧w'.cell? ⟨tb,s.i*4+1,none⟩=some (.string ⟨(tk ts s).t.toArray⟩)∧w'.cell? ⟨tb,s.i*4+2,none⟩=some (.int .i64 (tk ts s).ln)∧w'.cell? ⟨tb,s.i*4+3,none⟩=some (.int .i64 (tk ts s).cl)∧Below w.heap.size w w')
  ((refine KP.out _ ?_;repeat (first|assumption|exact Below.refl _ _|(refine Below.drew ?_)|(refine alloc_on ?_ _)|(refine Below.setCell ?_ (by first|omega|(simp<;>omega)) _))))
  (fail)
 obtain ⟨T,hT⟩:∃T:ByteArray,T=⟨(tk ts s).t.toArray⟩:=⟨_,rfl⟩;obtain ⟨K,hK⟩:∃K:Int,K=((tk ts s).k:Int):=⟨_,rfl⟩;rw [←hT,←hK];obtain ⟨w2,hw2,b2,lt2,cell⟩:=loaded w [.int .i64 K,.string T,.int .i64 (tk ts s).ln,.int .i64 (tk ts s).cl] 74;rw [hw2];have d0:=cell 0 _ rfl;have d1:=cell 1 _ rfl;have Q2:=H.out.on b2;have c2:w2.cell? ⟨b,2,none⟩=some (.int .i64 s.err):=Q2.c2;have c12:w2.cell? ⟨b,1,none⟩=some (.int .i64 s.i):=Q2.c1;have f12:=Q2.fr 1;have hb2:b<w2.heap.size:=Nat.lt_of_lt_of_le hb b2.size;have HQ2:=hid Q2
 have hit:isTk ts s k=((s.err==0)&&(K==k)):=by
  unfold isTk;have e1:decide (s.err=0)=(s.err==0):=by rw [Bool.eq_iff_iff,decide_eq_true_eq,beq_iff_eq]
  have e2:decide ((tk ts s).k=k)=(K==k):=by rw [Bool.eq_iff_iff,decide_eq_true_eq,beq_iff_eq];omega
  rw [e1,e2]
 have hno:isTk ts s k=false→Hid (RS=([],wrg ts s 4)):=fun e=>hid (by rw [hRS.out];unfold tkn;rw [e];rfl);have hye:isTk ts s k=true→Hid (RS=((tk ts s).t,s.next)∧Ok ts s.next):=fun e=>hid ⟨by rw [hRS.out];unfold tkn;rw [e];rfl,H.out.ok.next (isTk_k e hk)⟩;rw [hit] at hno hye;have HT:=hid hT;have hi3:(s.i:Int)+1≤9223372036854775807:=by omega
 have hne:b≠w.heap.size:=by omega
 have hne':w.heap.size≠b:=by omega
 clear hw2 cell hT hK hit hb ht i1 i2 KP Q2 hRS c0 c1 a0 a1 a2 a3;rcases Bool.eq_false_or_eq_true (s.err==0) with h1|h1
 ·have n1:(s.err != 0)=false:=by rw [bne,h1];rfl
  rcases Bool.eq_false_or_eq_true (K==(k:Int)) with h2|h2
  ·have n2:(K != (k:Int))=false:=by rw [bne,h2];rfl
   have G:=hye (by rw [h1,h2];rfl);clear hno hye;go_wp2;go_ret;refine ⟨ret_s (by rw [HT.out,G.out.1]),?_,grown_trans (grown_below b2) (grown_set _ _ _ _)⟩;rw [G.out.1];exact HQ2.out.step G.out.2
  ·have n2:(K != (k:Int))=true:=by rw [bne,h2];rfl
   have G:=hno (by rw [h1,h2];rfl);clear hno hye;go_wp2_with (go_at_call 29;refine (wrong_any _ _ _ _ _ _ _ HQ2.out).mono ?_;rintro e w3 ⟨rfl,q3,g3⟩;have Q3:=hid q3;clear q3)
   go_ret;refine ⟨ret_s (by rw [G.out]),?_,grown_trans (grown_below b2) g3⟩;rw [G.out];exact Q3.out
 ·have n1:(s.err != 0)=true:=by rw [bne,h1];rfl
  have G:=hno (by rw [h1];rfl);clear hno hye;go_wp2_with (go_at_call 29;refine (wrong_any _ _ _ _ _ _ _ HQ2.out).mono ?_;rintro e w3 ⟨rfl,q3,g3⟩;have Q3:=hid q3;clear q3)
  go_ret;refine ⟨ret_s (by rw [G.out]),?_,grown_trans (grown_below b2) g3⟩;rw [G.out];exact Q3.out
theorem number_any (b tb cap:Nat) (ts:List Tok) (s:St) (places most:Int) (w:World) (h:Ps w b tb cap ts s) :
  Calls Tryz.prog 26 #[.pointer (some ⟨b,0,none⟩),.int .i64 places,.int .i64 most] w fun x w'=>x=.returned (.int .i64 (numS ts s places most).1)∧Ps w' b tb cap ts (numS ts s places most).2∧w.grownBy w' (some b):=by
 have H:=hid h;have hb:=h.lt;have ht:=h.tl;have c0:=h.c0;have c1:=h.c1;have i1:(0:Int)≤s.i:=by omega
 have i2:(s.i:Int)<ts.length:=by have:=h.ok.lt;omega
 have hc:=h.cnt;obtain ⟨a0,a1,a2,a3⟩:=h.at
 have KP:Hid (∀w',Below w.heap.size w w'→w'.cell? ⟨b,0,none⟩=some (.slice (some ⟨tb,0,none⟩) ts.length cap)∧w'.cell? ⟨b,1,none⟩=some (.int .i64 s.i)∧w'.cell? ⟨tb,s.i*4,none⟩=some (.int .i64 (tk ts s).k)∧w'.cell? ⟨tb,s.i*4+1,none⟩=some (.string ⟨(tk ts s).t.toArray⟩)∧w'.cell? ⟨tb,s.i*4+2,none⟩=some (.int .i64 (tk ts s).ln)∧w'.cell? ⟨tb,s.i*4+3,none⟩=some (.int .i64 (tk ts s).cl)∧Below w.heap.size w w'):=hid fun w' hb=>by
  have h':=H.out.on hb;exact ⟨h'.c0,h'.c1,h'.at.1,h'.at.2.1,h'.at.2.2.1,h'.at.2.2.2,hb⟩
 obtain ⟨RS,hRS⟩:∃RS,RS=numS ts s places most:=⟨_,rfl⟩;rw [←hRS];replace hRS:=hid hRS;clear h;go_enter Tryz.func26,Tryz.ntmps26
 go_upto_region 1 with fail
 go_region_held3 (fun w'=>w'.cell? ⟨b,0,none⟩=some (.slice (some ⟨tb,0,none⟩) ts.length cap)∧w'.cell? ⟨b,1,none⟩=some (.int .i64 s.i)∧w'.cell? ⟨tb,s.i*4,none⟩=some (.int .i64 (tk ts s).k)∧w'.cell? ⟨tb,s.i*4+1,none⟩=some (.string ⟨(tk ts s).t.toArray⟩)∧w'.cell? ⟨tb,s.i*4+2,none⟩=some (.int .i64 (tk ts s).ln)∧w'.cell? ⟨tb,s.i*4+3,none⟩=some (.int .i64 (tk ts s).cl)∧Below w.heap.size w w')
  ((refine KP.out _ ?_;repeat (first|assumption|exact Below.refl _ _|(refine Below.drew ?_)|(refine alloc_on ?_ _)|(refine Below.setCell ?_ (by first|omega|(simp<;>omega)) _))))
  (fail)
 obtain ⟨T,hT⟩:∃T:ByteArray,T=⟨(tk ts s).t.toArray⟩:=⟨_,rfl⟩;have hTl:T.data.toList=(tk ts s).t:=by rw [hT]
 have hTs:T.size≤1000000:=by have:=H.out.str_at;have e:T.size=T.data.toList.length:=by simp;
                             rw [e,hTl];exact this
 obtain ⟨K,hK⟩:∃K:Int,K=((tk ts s).k:Int):=⟨_,rfl⟩;rw [←hT,←hK];obtain ⟨w2,hw2,b2,lt2,cell⟩:=loaded w [.int .i64 K,.string T,.int .i64 (tk ts s).ln,.int .i64 (tk ts s).cl] 74;rw [hw2];have d0:=cell 0 _ rfl;have d1:=cell 1 _ rfl;have Q2:=H.out.on b2;have c2:w2.cell? ⟨b,2,none⟩=some (.int .i64 s.err):=Q2.c2;have hb2:b<w2.heap.size:=Nat.lt_of_lt_of_le hb b2.size;have HQ2:=hid Q2
 have hit:isTk ts s 3=((s.err==0)&&(K==3)):=by
  unfold isTk;have e1:decide (s.err=0)=(s.err==0):=by rw [Bool.eq_iff_iff,decide_eq_true_eq,beq_iff_eq]
  have e2:decide ((tk ts s).k=3)=(K==3):=by rw [Bool.eq_iff_iff,decide_eq_true_eq,beq_iff_eq];omega
  rw [e1,e2]
 have hno:isTk ts s 3=false→Hid (RS=(0,wrg ts s 4)):=fun e=>hid (by rw [hRS.out];unfold numS;rw [e];rfl)
 have hye:isTk ts s 3=true→Hid (RS=(pN (tk ts s).t places most,(bad ts s (pW (tk ts s).t places most)).next)∧Ok ts (bad ts s (pW (tk ts s).t places most)).next):=fun e=>hid (by
  have e2:RS=(pN (tk ts s).t places most,(bad ts s (pW (tk ts s).t places most)).next):=by rw [hRS.out];unfold numS;rw [e];rfl
  refine ⟨e2,?_⟩;have:=H.out.ok.numS places most;rw [←hRS.out,e2] at this
  exact this)
 rw [hit] at hno hye;have cP:=fun W=>R4.parse_any T places most W (by omega);rw [hTl] at cP;obtain ⟨N,hN⟩:∃N,N=pN (tk ts s).t places most:=⟨_,rfl⟩;obtain ⟨V,hV⟩:∃V,V=pW (tk ts s).t places most:=⟨_,rfl⟩;rw [←hN,←hV] at hye;simp only [←hN,←hV] at cP;have hi3:(s.i:Int)+1≤9223372036854775807:=by omega
 have hne:b≠w.heap.size:=by omega
 have hne':w.heap.size≠b:=by omega
 clear hw2 cell hT hK hit hb ht i1 i2 KP Q2 hRS c0 c1 a0 a1 a2 a3 hN hV hTl hTs;rcases Bool.eq_false_or_eq_true (s.err==0) with h1|h1
 ·have n1:(s.err != 0)=false:=by rw [bne,h1];rfl
  rcases Bool.eq_false_or_eq_true (K==(3:Int)) with h2|h2
  ·have n2:(K != (3:Int))=false:=by rw [bne,h2];rfl
   have G:=hye (by rw [h1,h2];rfl);clear hno hye h1 h2;by_cases v1:V=1
   ·have m1:(V==1)=true:=by simpa using v1
    have m2:(V==2)=false:=by rw [v1];rfl
    have hbd:Hid (bad ts s V=wrg ts s 4):=hid (by unfold bad;rw [if_pos v1]);rw [hbd.out] at G;clear v1
    go_wp2_with (first
     | (go_at_call 55;refine (cP _).mono ?_;rintro e w3 ⟨rfl,b3⟩;have Q3:=hid (HQ2.out.on b3))
     | (go_at_call 29;refine (wrong_any _ _ _ _ _ _ _ Q3.out).mono ?_;rintro e w4 ⟨rfl,q4,g4⟩;have k1:w4.cell? ⟨b,1,none⟩=some (.int .i64 s.i):=(by rw [q4.c1,wrg_i]);have kf:=q4.fr 1;have kl:=q4.lt;have Q4:=hid q4;clear q4))
    go_ret;refine ⟨ret_i (by rw [G.out.1]),?_,grown_trans (grown_below b2) (grown_trans (grown_below b3) (grown_trans g4 (grown_set _ _ _ _)))⟩;rw [G.out.1];have:=Q4.out.step G.out.2;rw [wrg_i] at this;exact this
   ·have m1:(V==1)=false:=by simpa using v1
    by_cases v2:V=2
    ·have m2:(V==2)=true:=by simpa using v2
     have hbd:Hid (bad ts s V=wrg ts s 6):=hid (by unfold bad;rw [if_neg v1,if_pos v2]);rw [hbd.out] at G;clear v1 v2
     go_wp2_with (first
      | (go_at_call 55;refine (cP _).mono ?_;rintro e w3 ⟨rfl,b3⟩;have Q3:=hid (HQ2.out.on b3))
      | (go_at_call 29;refine (wrong_any _ _ _ _ _ _ _ Q3.out).mono ?_;rintro e w4 ⟨rfl,q4,g4⟩;have k1:w4.cell? ⟨b,1,none⟩=some (.int .i64 s.i):=(by rw [q4.c1,wrg_i]);have kf:=q4.fr 1;have kl:=q4.lt;have Q4:=hid q4;clear q4))
     go_ret;refine ⟨ret_i (by rw [G.out.1]),?_,grown_trans (grown_below b2) (grown_trans (grown_below b3) (grown_trans g4 (grown_set _ _ _ _)))⟩;rw [G.out.1];have:=Q4.out.step G.out.2;rw [wrg_i] at this;exact this
    ·have m2:(V==2)=false:=by simpa using v2
     have hbd:Hid (bad ts s V=s):=hid (by unfold bad;rw [if_neg v1,if_neg v2]);rw [hbd.out] at G;clear v1 v2;go_wp2_with (go_at_call 55;refine (cP _).mono ?_;rintro e w3 ⟨rfl,b3⟩;have q3:=HQ2.out.on b3;have k1:=q3.c1;have kf:=q3.fr 1;have kl:=q3.lt;have Q3:=hid q3;clear q3)
     go_ret;refine ⟨ret_i (by rw [G.out.1]),?_,grown_trans (grown_below b2) (grown_trans (grown_below b3) (grown_set _ _ _ _))⟩;rw [G.out.1];exact Q3.out.step G.out.2
  ·have n2:(K != (3:Int))=true:=by rw [bne,h2];rfl
   have G:=hno (by rw [h1,h2];rfl);clear hno hye;go_wp2_with (go_at_call 29;refine (wrong_any _ _ _ _ _ _ _ HQ2.out).mono ?_;rintro e w3 ⟨rfl,q3,g3⟩;have Q3:=hid q3;clear q3)
   go_ret;refine ⟨ret_i (by rw [G.out]),?_,grown_trans (grown_below b2) g3⟩;rw [G.out];exact Q3.out
 ·have n1:(s.err != 0)=true:=by rw [bne,h1];rfl
  have G:=hno (by rw [h1];rfl);clear hno hye;go_wp2_with (go_at_call 29;refine (wrong_any _ _ _ _ _ _ _ HQ2.out).mono ?_;rintro e w3 ⟨rfl,q3,g3⟩;have Q3:=hid q3;clear q3)
  go_ret;refine ⟨ret_i (by rw [G.out]),?_,grown_trans (grown_below b2) g3⟩;rw [G.out];exact Q3.out
def dayV (d:Mm.Day):Value:=.agg #[d.y,d.m,d.d]
theorem date_any (s:ByteArray) (w:World):Calls Tryz.prog 54 #[.string s] w fun e w'=>e=.returned (.tuple #[dayV (dayOf' s.data.toList),.bool (reads s.data.toList)])∧Below w.heap.size w w':=by
 unfold dayV dayOf';by_cases hs:s.size=10
 ·cases hr:reads s.data.toList
  ·exact R3.parse_walk s _ w hs (hid fun _=>rfl) (hid fun k=>by rw [hr] at k;cases k)
  ·exact R3.parse_walk s _ w hs (hid fun k=>by rw [hr] at k;cases k) (hid fun _=>rfl)
 ·have hr:reads s.data.toList=false:=by
   have:s.data.toList.length≠10:=by simpa using hs
   unfold reads formed;rw [decide_eq_false this];rfl
  rw [hr];exact R3.parse_len s w hs
theorem grown_put {w w2:World} {row:Option Nat} (h:w.grownBy w2 row) {k:Nat} (hk:w.heap.size≤k) (o:Nat) (u:Value):w.grownBy (w2.setCell ⟨k,o,none⟩ u) row:=
 ⟨h.os,h.tape,h.output,by simpa using h.size,fun j hj hne=>(Below.heap_setCell w2 ⟨k,o,none⟩ u j (by show j≠k;omega)).trans (h.block j hj hne)⟩
theorem lies_grown {w w1:World} {k:Nat} {a b c:Value} (h:Lies3 w k a b c) {row:Option Nat} (hg:w.grownBy w1 row) (hne:some k≠row):Lies3 w1 k a b c:=by
 obtain ⟨h1,h2,h3,h4,h5,h6,h7⟩:=h;have e:=hg.block k h1 hne;exact ⟨Nat.lt_of_lt_of_le h1 hg.size,(World.cell?_of_block e).trans h2,(World.cell?_of_block e).trans h3,(World.cell?_of_block e).trans h4,(World.frozen?_of_block e).trans h5,(World.frozen?_of_block e).trans h6,(World.frozen?_of_block e).trans h7⟩
theorem Ps.far {w w1:World} {b tb cap:Nat} {ts:List Tok} {s:St} (h:Ps w1 b tb cap ts s) {k:Nat} (hb:b<w.heap.size) (ht:tb<w.heap.size) (hk:w.heap.size≤k) (o:Nat) (u:Value):Ps (w1.setCell ⟨k,o,none⟩ u) b tb cap ts s:=
 h.other (grown_set _ _ _ _) (fun e=>by have:=Option.some.inj e;omega) (fun e=>by have:=Option.some.inj e;omega)
theorem day_any (b tb cap:Nat) (ts:List Tok) (s:St) (w:World) (h:Ps w b tb cap ts s) :
  Calls Tryz.prog 24 #[.pointer (some ⟨b,0,none⟩)] w fun x w'=>x=.returned (dayV (dayS ts s).1)∧Ps w' b tb cap ts (dayS ts s).2∧w.grownBy w' (some b):=by
 obtain ⟨w0,hw0⟩:∃w0,w0=w.alloc (.cells #[.int .i64 0,.int .i64 0,.int .i64 0] 41):=⟨_,rfl⟩;have b0:Below w.heap.size w w0:=by rw [hw0];exact (Below.refl _ _).alloc (Nat.le_refl _) _
 have Z0:Lies3 w0 w.heap.size (.int .i64 0) (.int .i64 0) (.int .i64 0):=by rw [hw0];exact Lies3.new rfl
 have cT:=token_any b tb cap ts s 4 (by decide) w0 (h.on b0);obtain ⟨X,hX⟩:∃X:ByteArray,X=⟨(tkn ts s 4).1.toArray⟩:=⟨_,rfl⟩;have hXl:X.data.toList=(tkn ts s 4).1:=by rw [hX]
 rw [←hX] at cT;have cD:=fun W=>date_any X W;rw [hXl] at cD;obtain ⟨D,hD⟩:∃D,D=(dayS ts s).1:=⟨_,rfl⟩;rw [←hD];have hD':dayOf' (tkn ts s 4).1=D:=by rw [hD];rfl
 rw [hD'] at cD;obtain ⟨r,hr⟩:∃r,r=reads (tkn ts s 4).1:=⟨_,rfl⟩;rw [←hr] at cD;have h2:(dayS ts s).2=(tkn ts s 4).2:=rfl;rw [h2];have e4:(((4:Nat):Int))=4:=rfl;rw [e4] at cT;unfold dayV at cD ⊢;have hb:=h.lt;have ht:=h.tl;have HW0:=hid hw0;have HZ0:=hid Z0;clear hX hXl hD hD' hr h2 h e4 hw0 Z0;go_enter Tryz.func24,Tryz.ntmps24
 go_wp2_with fail
 rw [←HW0.out];refine cT.mono ?_;rintro e w1 ⟨rfl,q1,g1⟩;have Z1:=lies_grown HZ0.out g1 (fun e=>by have:=Option.some.inj e;omega);have HQ1:=hid q1;have HZ1:=hid Z1;clear q1 Z1;go_wp2_with fail
 refine (cD _).mono ?_;rintro e w2 ⟨rfl,b2⟩;obtain ⟨z1,z2,z3,z4,z5,z6,z7⟩:=HZ1.out.on b2;have GG:=hid (grown_trans (grown_below b0) (grown_trans g1 (grown_below b2)));have HQ2:=hid (HQ1.out.on b2);clear g1 b2 b0;go_wp2;exact bodyPost_ret (v:=.agg #[D.y,D.m,D.d]) (by simp [results,Tryz.results24,go_sem, *]) rfl ⟨rfl,by repeat (first|exact HQ2.out|refine Ps.far ?_ hb ht (Nat.le_refl _) _ _|refine Ps.on ?_ ((Below.refl _ _).alloc (Nat.le_refl _) _)),by repeat (first|exact GG.out|refine grown_put ?_ (Nat.le_refl _) _ _|refine grown_trans ?_ (grown_below ((Below.refl _ _).alloc (Nat.le_refl _) _)))⟩
theorem box_grown {w w1:World} {row:Option Nat} {k j:Nat} {u:Value} (hg:w.grownBy w1 row) (hk:k<w.heap.size) (hne:some k≠row) (h:w.cell? ⟨k,j,none⟩=some u):w1.cell? ⟨k,j,none⟩=some u:=(World.cell?_of_block (hg.block k hk hne)).trans h
theorem one_any (b tb cap:Nat) (ts:List Tok) (s:St) (lb lcap:Nat) (ws:List (List UInt8)) (w:World) (h:Ps w b tb cap ts s) (hlb:lb<w.heap.size) (hne:lb≠b)
  (hw:∀i l,ws[i]?=some l→w.cell? ⟨lb,i,none⟩=some (.string ⟨l.toArray⟩)) (hl:ws.length≤100) :
  Calls Tryz.prog 25 #[.pointer (some ⟨b,0,none⟩),.slice (some ⟨lb,0,none⟩) ws.length lcap] w fun x w'=>x=.returned (.int .i64 (oneS ts s ws).1)∧Ps w' b tb cap ts (oneS ts s ws).2∧w.grownBy w' (some b):=by
 obtain ⟨RS,hRS⟩:∃RS,RS=oneS ts s ws:=⟨_,rfl⟩;rw [←hRS];replace hRS:=hid hRS;have H:=hid h;have HWs:=hid hw;clear h hw;go_enter Tryz.func25,Tryz.ntmps25
 go_wp2;go_loopw [9] (fun i wr=>∃i':Int,i=.int .i64 i'∧0≤i'∧i'≤ws.length∧Hid (Ps wr b tb cap ts s∧w.grownBy wr (some b)∧oneS ts s ws=oneAt ts s (ws.drop i'.toNat) i')) (fun i _=>((ws.length:Int)-intOf i).toNat)
 case atStart=>exact ⟨0,rfl,by omega,by omega,hid ⟨H.out,grown_refl _ _,rfl⟩⟩
 case round=>
  obtain ⟨i',rfl,i0,i1,hst⟩:=hrel;by_cases hlt:i'<ws.length
  ·obtain ⟨l,hli⟩:∃l,ws[i'.toNat]?=some l:=⟨_,List.getElem?_eq_getElem (by omega)⟩;have c0:=box_grown hst.out.2.1 hlb (fun e=>hne (Option.some.inj e)) (HWs.out _ _ hli);have lw:lb<wr.heap.size:=Nat.lt_of_lt_of_le hlb hst.out.2.1.size;have cT:=take_any b tb cap ts s ⟨l.toArray⟩ wr hst.out.1
   have e0:ws.drop i'.toNat=l::ws.drop (i'.toNat+1):=by
    rw [List.drop_eq_getElem_cons (by omega)];rw [List.getElem?_eq_getElem (by omega)] at hli;rw [Option.some.inj hli]
   have hd:=hst.out.2.2;rw [e0] at hd;unfold oneAt at hd;have eL:(⟨l.toArray⟩:ByteArray).data.toList=l:=by simp
   rw [eL] at cT;obtain ⟨L,hL⟩:∃L:ByteArray,L=⟨l.toArray⟩:=⟨_,rfl⟩;rw [←hL] at cT c0;clear hL eL e0 hli;cases ho:onW ts s l
   ·have e:tke ts s l=(false,s):=by unfold tke;rw [ho];rfl
    rw [e] at cT;rw [ho] at hd;have HD:=hid hd;clear e ho hd;go_wp2_with (go_at_call 53;refine cT.mono ?_;rintro e w1 ⟨rfl,q1,g1⟩;have Q1:=hid q1;have G1:=hid g1;clear q1 g1)
    go_roundw
    case rel=>exact ⟨i'+1,rfl,by omega,by omega,hid ⟨Q1.out,grown_trans hst.out.2.1 G1.out,by rw [show (i'+1).toNat=i'.toNat+1 by omega];exact HD.out⟩⟩
    case measure=>simp [intOf];omega
   ·have e:tke ts s l=(true,s.next):=by unfold tke;rw [ho];rfl
    rw [e] at cT;rw [ho] at hd;have HD:=hid (hRS.out.trans hd);clear e ho hd;go_wp2_with (go_at_call 53;refine cT.mono ?_;rintro e w1 ⟨rfl,q1,g1⟩;have Q1:=hid q1;have G1:=hid g1;clear q1 g1)
    go_ret;refine ⟨ret_i (by rw [HD.out];rfl),?_,grown_trans hst.out.2.1 G1.out⟩;rw [HD.out];exact Q1.out
  ·obtain rfl:i'=ws.length:=by omega
   have hd:=hst.out.2.2;rw [show ((ws.length:Int)).toNat=ws.length by omega,List.drop_length] at hd;have HD:=hid (hRS.out.trans hd);clear hd;go_wp2;go_ret;refine ⟨ret_i (by rw [HD.out];rfl),?_,hst.out.2.1⟩;rw [HD.out];exact hst.out.1
def wordCellsOf (ws:List (List UInt8)):Array Value:=(ws.map fun l=>Value.string ⟨l.toArray⟩).toArray
theorem words_new (w:World) (ws:List (List UInt8)) (t:TypeId):∀i l,ws[i]?=some l→(w.alloc (.cells (wordCellsOf ws) t)).cell? ⟨w.heap.size,i,none⟩=some (.string ⟨l.toArray⟩):=by
 intro i l h;rw [World.cell?_alloc_new];unfold wordCellsOf;simp [h]
theorem mode_any (b tb cap:Nat) (ts:List Tok) (s:St) (w:World) (h:Ps w b tb cap ts s) :
  Calls Tryz.prog 56 #[.pointer (some ⟨b,0,none⟩)] w fun x w'=>x=.returned (.int .i64 (modeS ts s).1)∧Ps w' b tb cap ts (modeS ts s).2∧w.grownBy w' (some b):=by
 obtain ⟨w0,hw0⟩:∃w0,w0=w.alloc (.cells (wordCellsOf modes) 9):=⟨_,rfl⟩;have b0:Below w.heap.size w w0:=by rw [hw0];exact (Below.refl _ _).alloc (Nat.le_refl _) _
 have l0:w.heap.size<w0.heap.size:=by rw [hw0];simp
 have hb:=h.lt;have cO:=one_any b tb cap ts s w.heap.size 4 modes w0 (h.on b0) l0 (by omega) (by rw [hw0];exact words_new w modes _) (by decide);obtain ⟨r,hr⟩:∃r,r=oneS ts s modes:=⟨_,rfl⟩;rw [←hr] at cO;have e4:modes.length=4:=rfl;rw [e4] at cO;by_cases hn:r.1<0
 ·have e:modeS ts s=(0,wrg ts r.2 4):=by unfold modeS;rw [←hr,if_pos hn]
  rw [e]
  have hm:Hid (r.1 = -1):=hid (by
   rw [hr] at hn ⊢;unfold oneS modes at hn ⊢;simp only [oneAt] at hn ⊢
   repeat' split
   all_goals first|rfl|(exfalso;revert hn;simp [*]))
  obtain ⟨R1,hR1⟩:∃R1,R1=r.1:=⟨_,rfl⟩;rw [←hR1] at cO hn;have HW0:=hid hw0;clear e hr hR1 e4 hw0 h;go_enter Tryz.func56,Tryz.ntmps56
  go_wp2_with fail
  have hE:w.alloc (.cells #[.string ⟨#[102,108,111,111,114]⟩,.string ⟨#[99,101,105,108]⟩,.string ⟨#[104,97,108,102,117,112]⟩,.string ⟨#[104,97,108,102,101,118,101,110]⟩] 9)=w0:=HW0.out.symm;rw [hE];clear hE;refine cO.mono ?_;rintro e w1 ⟨rfl,q1,g1⟩;have Q1:=hid q1;clear q1;go_wp2_with (go_at_call 29;refine (wrong_any _ _ _ _ _ _ _ Q1.out).mono ?_;rintro e w2 ⟨rfl,q2,g2⟩;have Q2:=hid q2;clear q2)
  go_ret;exact ⟨ret_i (by omega),Q2.out,grown_trans (grown_below b0) (grown_trans g1 g2)⟩
 ·have e:modeS ts s=r:=by unfold modeS;rw [←hr,if_neg hn]
  rw [e];obtain ⟨R1,hR1⟩:∃R1,R1=r.1:=⟨_,rfl⟩;rw [←hR1] at cO hn ⊢;have hn':0≤R1:=by omega
  have HW0:=hid hw0;clear e hr hR1 e4 hw0 h hn;go_enter Tryz.func56,Tryz.ntmps56
  go_wp2_with fail
  have hE:w.alloc (.cells #[.string ⟨#[102,108,111,111,114]⟩,.string ⟨#[99,101,105,108]⟩,.string ⟨#[104,97,108,102,117,112]⟩,.string ⟨#[104,97,108,102,101,118,101,110]⟩] 9)=w0:=HW0.out.symm;rw [hE];clear hE;refine cO.mono ?_;rintro e w1 ⟨rfl,q1,g1⟩;have Q1:=hid q1;clear q1;go_wp2;go_ret;exact ⟨ret_i (by omega),Q1.out,grown_trans (grown_below b0) g1⟩
structure Bx (W:World) (b:Nat) (cs:List Value):Prop where
 lt:b<W.heap.size
 cell:∀j u,cs[j]?=some u→W.cell? ⟨b,j,none⟩=some u
 free:∀j,W.frozen? ⟨b,j,none⟩=false
theorem Bx.new (w:World) (cs:List Value) (t:TypeId):Bx (w.alloc (.cells cs.toArray t)) w.heap.size cs:=by
 refine ⟨by simp,fun j u h=>?_,fun j=>?_⟩
 ·rw [World.cell?_alloc_new];simpa using h
 ·simp
theorem Bx.on {W W':World} {b:Nat} {cs:List Value} (h:Bx W b cs) (hb:Below W.heap.size W W'):Bx W' b cs:=
 ⟨Nat.lt_of_lt_of_le h.lt hb.size,fun j u k=>by rw [hb.cell h.lt];exact h.cell j u k,fun j=>by rw [hb.frozen h.lt];exact h.free j⟩
theorem Bx.grown {W W':World} {b:Nat} {cs:List Value} (h:Bx W b cs) {row:Option Nat} (hg:W.grownBy W' row) (hne:some b≠row):Bx W' b cs:=
 ⟨Nat.lt_of_lt_of_le h.lt hg.size,fun j u k=>by rw [World.cell?_of_block (w:=W) (hg.block b h.lt hne)];exact h.cell j u k,fun j=>by rw [World.frozen?_of_block (w:=W) (hg.block b h.lt hne)];exact h.free j⟩
def winV (x:Mm.Win):Value:=.agg #[x.has,x.a.y,x.a.m,x.a.d,x.b.y,x.b.m,x.b.d]
def z7:List Value:=[.bool false,.int .i64 0,.int .i64 0,.int .i64 0,.int .i64 0,.int .i64 0,.int .i64 0]
theorem window_any (b tb cap:Nat) (ts:List Tok) (s:St) (w:World) (h:Ps w b tb cap ts s) :
  Calls Tryz.prog 27 #[.pointer (some ⟨b,0,none⟩)] w fun x w'=>x=.returned (winV (winS ts s).1)∧Ps w' b tb cap ts (winS ts s).2∧w.grownBy w' (some b):=by
 obtain ⟨w0,hw0⟩:∃w0,w0=w.alloc (.cells z7.toArray 82):=⟨_,rfl⟩;have b0:Below w.heap.size w w0:=by rw [hw0];exact (Below.refl _ _).alloc (Nat.le_refl _) _
 have Z0:Bx w0 w.heap.size z7:=by rw [hw0];exact Bx.new _ _ _
 have hb:=h.lt;have ht:=h.tl;have cF:=take_any b tb cap ts s ⟨#[102,114,111,109]⟩ w0 (h.on b0);have eF:(⟨#[102,114,111,109]⟩:ByteArray).data.toList=wFrom:=rfl;rw [eF] at cF;have HW0:Hid (w.alloc (.cells #[.bool false,.int .i64 0,.int .i64 0,.int .i64 0,.int .i64 0,.int .i64 0,.int .i64 0] 82)=w0):=hid hw0.symm;have nb:some w.heap.size≠some b:=fun e=>by have:=Option.some.inj e;omega
 cases ho:onW ts s wFrom
 ·have e:winS ts s=(⟨false,⟨0,0,0⟩,⟨0,0,0⟩⟩,s):=by unfold winS;rw [ho];rfl
  have e2:tke ts s wFrom=(false,s):=by unfold tke;rw [ho];rfl
  rw [e];rw [e2] at cF;have HZ0:=hid Z0;clear e e2 ho h hw0 eF Z0;go_enter Tryz.func27,Tryz.ntmps27
  go_wp2_with fail
  rw [HW0.out];refine cF.mono ?_;rintro e w1 ⟨rfl,q1,g1⟩;have Z1:=HZ0.out.grown g1 nb;have c:=Z1.cell;have c0:=c 0 _ rfl;have c1:=c 1 _ rfl;have c2:=c 2 _ rfl;have c3:=c 3 _ rfl;have c4:=c 4 _ rfl;have c5:=c 5 _ rfl;have c6:=c 6 _ rfl;have f0:=Z1.free 0;have f1:=Z1.free 1;have f2:=Z1.free 2;have f3:=Z1.free 3;have f4:=Z1.free 4;have f5:=Z1.free 5;have f6:=Z1.free 6;have HQ1:=hid q1;have GG:=hid (grown_trans (grown_below b0) g1);clear c q1 g1 b0 Z1;go_wp2;exact bodyPost_ret (v:=.agg #[.bool false,.int .i64 0,.int .i64 0,.int .i64 0,.int .i64 0,.int .i64 0,.int .i64 0]) (by simp [results,Tryz.results27,go_sem, *]) rfl ⟨rfl,by (iterate 7 (refine Ps.far ?_ hb ht (Nat.le_refl _) _ _));exact HQ1.out,by (iterate 7 (refine grown_put ?_ (Nat.le_refl _) _ _));exact GG.out⟩
 ·have ok1:=h.ok.next (onW_k ho);obtain ⟨A,hA⟩:∃A,A=dayS ts s.next:=⟨_,rfl⟩;obtain ⟨s2,hs2⟩:∃s2,s2=wnt ts A.2 wTo:=⟨_,rfl⟩;obtain ⟨B,hB⟩:∃B,B=dayS ts s2:=⟨_,rfl⟩;have e:winS ts s=(⟨true,A.1,B.1⟩,B.2):=by unfold winS;rw [ho,hB,hs2,hA];rfl
  have e2:tke ts s wFrom=(true,s.next):=by unfold tke;rw [ho];rfl
  rw [e];rw [e2] at cF;have HA:=hid hA;have HS2:=hid hs2;have HB:=hid hB;have HZ0:=hid Z0;clear e e2 ho h hw0 eF Z0 hA hs2 hB;go_enter Tryz.func27,Tryz.ntmps27
  go_wp2_with fail
  rw [HW0.out];refine cF.mono ?_;rintro e w1 ⟨rfl,q1,g1⟩;have HZ1:=hid (HZ0.out.grown g1 nb);have G1:=hid (grown_trans (grown_below b0) g1);have cA:=day_any b tb cap ts s.next w1 q1;rw [←HA.out] at cA;unfold dayV at cA;clear q1 g1 b0;go_wp2_with fail
  refine cA.mono ?_;rintro e w2 ⟨rfl,q2,g2⟩;obtain ⟨w3,hw3⟩:∃w3,w3=w2.alloc (.cells #[A.1.y,A.1.m,A.1.d] 41):=⟨_,rfl⟩;have b3:Below w2.heap.size w2 w3:=by rw [hw3];exact (Below.refl _ _).alloc (Nat.le_refl _) _
  have Y3:Bx w3 w2.heap.size [A.1.y,A.1.m,A.1.d]:=by rw [hw3];exact Bx.new _ _ _
  have HZ2:=HZ1.out.grown g2 nb;have lz:=HZ2.lt;have HZ3:=hid (HZ2.on b3);have G3:=hid (grown_trans G1.out (grown_trans g2 (grown_below b3)));have cW:=want_any b tb cap ts A.2 ⟨#[116,111]⟩ w3 (q2.on b3);have eT:(⟨#[116,111]⟩:ByteArray).data.toList=wTo:=rfl;rw [eT,←HS2.out] at cW;have HW3:=hid hw3;have hbl:w2.heap.size≠b:=by have:=q2.lt;omega
  obtain ⟨ka,hka⟩:∃ka,ka=w2.heap.size:=⟨_,rfl⟩;have hz:ka≠w.heap.size:=by omega
  rw [←hka] at Y3 hbl;have HKA:=hid hka;clear q2 g2 hw3 eT HZ2 lz hka;go_wp2_with fail
  rw [←HW3.out,←HKA.out];refine cW.mono ?_;rintro e w4 ⟨rfl,q4,g4⟩;have Y4:=Y3.grown g4 (fun e=>hbl (Option.some.inj e));have HZ4:=hid (HZ3.out.grown g4 nb);have G4:=hid (grown_trans G3.out g4);have x0:=Y4.cell 0 _ rfl;have x1:=Y4.cell 1 _ rfl;have x2:=Y4.cell 2 _ rfl;have lY:=Y4.lt;have HY4:=hid Y4;have HQ4:=hid q4;have hz':w.heap.size≠ka:=fun e=>hz e.symm;clear q4 g4 Y4;go_upto_region 5 with fail
  go_region_held3 (fun w'=>w'.cell? ⟨ka,0,none⟩=some (.int .i64 A.1.y)∧w'.cell? ⟨ka,1,none⟩=some (.int .i64 A.1.m)∧w'.cell? ⟨ka,2,none⟩=some (.int .i64 A.1.d))
   (go_keep)
   (first
   | (go_at_call 24
      refine (day_any b tb cap ts s2 _ (HQ4.out.on ((Below.refl _ _).drew))).mono ?_;rw [←HB.out];unfold dayV;rintro e w5 ⟨rfl,q5,g5⟩;have Y5:=HY4.out.grown (grown_trans (grown_below ((Below.refl _ _).drew)) g5) (fun e=>hbl (Option.some.inj e));have Z5:=HZ4.out.grown (grown_trans (grown_below ((Below.refl _ _).drew)) g5) nb;have y0:=Y5.cell 0 _ rfl;have y1:=Y5.cell 1 _ rfl;have y2:=Y5.cell 2 _ rfl;have c0:=Z5.cell 0 _ rfl;have c1:=Z5.cell 1 _ rfl;have c2:=Z5.cell 2 _ rfl;have c3:=Z5.cell 3 _ rfl;have c4:=Z5.cell 4 _ rfl;have c5:=Z5.cell 5 _ rfl;have c6:=Z5.cell 6 _ rfl;have f0:=Z5.free 0;have f1:=Z5.free 1;have f2:=Z5.free 2;have f3:=Z5.free 3;have f4:=Z5.free 4;have f5:=Z5.free 5;have f6:=Z5.free 6;have G5:=hid (grown_trans G4.out (grown_trans (grown_below ((Below.refl _ _).drew)) g5));have HQ5:=hid q5
      clear q5 g5 Y5 Z5))
  go_wp2;exact bodyPost_ret (v:=.agg #[.bool true,A.1.y,A.1.m,A.1.d,B.1.y,B.1.m,B.1.d]) (by simp [results,Tryz.results27,go_sem, *]) rfl ⟨rfl,by (iterate 7 (refine Ps.far ?_ hb ht (Nat.le_refl _) _ _));exact HQ5.out,by (iterate 7 (refine grown_put ?_ (Nat.le_refl _) _ _));exact G5.out⟩
end R7
end Go.Proofs.YtjgogpaedaffkaaGreat
