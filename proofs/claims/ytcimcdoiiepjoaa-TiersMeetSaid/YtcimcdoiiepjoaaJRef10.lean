/- How far a tier reaches; steps tier by tier, with the quantity that is reached; sums of steps as far as one has come. As plain data. -/
import Derived.Test.YtcimcdoiiepjoaaJTieP
import Derived.Test.YtcimcdoiiepjoaaRows
import Derived.Test.YtcimcdoiiepjoaaJPureS
import Derived.WalkKit
import Derived.ProofKit
import Derived.BigQuiet
import Derived.Deep.QuietTactic
import Derived.StillTail
import Derived.Lib.QuietBelow
import Derived.Deep.RegionHeldLaw
import Derived.Deep.RegionHeld3
import Derived.Test.YtcimcdoiiepjoaaJRef6
import Derived.Deep.MidRow
import Derived.Deep.WholeRow
import Derived.Deep.CutBlock
import Derived.Deep.CutRange
import Derived.Deep.DeepCutAuto
import Derived.Test.YtcimcdoiiepjoaaJRef6e
import Derived.Laws.Cover1
import Derived.Deep.Onto
import Derived.Deep.Quiet
import Derived.Laws.OwnMore
import Derived.Test.YtcimcdoiiepjoaaJDatB
namespace Go.Proofs.Ytcimcdoiiepjoaa
namespace Mm
end Mm
namespace P
end P
namespace Tl
end Tl
namespace Md
end Md
namespace R6
end R6
namespace L06
end L06
namespace Te
end Te
namespace Co
end Co
namespace P
open Go.RowKit Mm
def reachP (ts:List Tier) (q:Int) (i:Nat):Int:=if i+1=ts.length then q else min q (((ts[i]?).map (·.upto)).getD 0)
def walkS (ts:List Tier) (q:Int):Nat→Nat→Int→List Stp
 | 0,_,_=>[]
 | n+1,i,u=>if reachP ts q i≤u then walkS ts q n (i+1) u else ⟨u,reachP ts q i,((ts[i]?).map (·.rate)).getD 0⟩::walkS ts q n (i+1) (reachP ts q i)
theorem reachP_le (ts:List Tier) (q:Int) (i:Nat):reachP ts q i≤q:=by unfold reachP;split<;>omega
theorem walkS_none (ts:List Tier) (q:Int):∀(n i:Nat) (u:Int),q≤u→walkS ts q n i u=[]
 | 0,_,_,_=>rfl
 | n+1,i,u,h=>by
   unfold walkS
   rw [if_pos (Int.le_trans (reachP_le ts q i) h)]
   exact walkS_none ts q n (i+1) u h
theorem drop_cons {α:Type} {l:List α} {i:Nat} {t:α} (h:l[i]?=some t):l.drop i=t::l.drop (i+1):=by
 obtain ⟨hlt,rfl⟩:=List.getElem?_eq_some_iff.1 h
 exact List.drop_eq_getElem_cons hlt
theorem walkS_grad (ts:List Tier) (q:Int):∀(n i:Nat) (u:Int),i+n=ts.length→tiersB u (ts.drop i)=true→walkS ts q n i u=gradS q u (ts.drop i)
 | 0,i,u,h,_=>by rw [List.drop_of_length_le (by omega)];rfl
 | n+1,i,u,h,hB=>by
   obtain ⟨t,ht⟩:∃t,ts[i]?=some t:=⟨_,List.getElem?_eq_getElem (by omega)⟩
   unfold walkS
   rw [ht]
   cases n with
   | zero=>
     have e:reachP ts q i=q:=by unfold reachP;rw [if_pos (by omega)]
     rw [e,drop_cons ht,List.drop_of_length_le (by omega)]
     unfold gradS
     by_cases k:q≤u
     ·rw [if_pos k,if_neg (by omega)];rfl
     ·rw [if_neg k,if_pos (by omega)];rfl
   | succ n=>
     obtain ⟨s,hs⟩:∃s,ts[i+1]?=some s:=⟨_,List.getElem?_eq_getElem (by omega)⟩
     have e:reachP ts q i=min q t.upto:=by unfold reachP;rw [if_neg (by omega),ht];rfl
     rw [e,drop_cons ht,drop_cons hs]
     rw [drop_cons ht,drop_cons hs] at hB
     obtain ⟨_,_,h1,_,h2⟩:=tiersB_cons hB
     rw [←drop_cons hs] at h2
     unfold gradS
     rw [←drop_cons hs]
     by_cases k:q≤u
     ·rw [if_pos (by omega),if_neg (by omega),walkS_none ts q (n+1) (i+1) u k,gradS_none _ _ _ h2 (by omega)];rfl
     ·rw [if_neg (by omega),if_pos (by omega)]
      show _::_=_::_
      refine congrArg (_::·) ?_
      rcases Int.lt_or_le t.upto q with k2|k2
      ·rw [Int.min_eq_right (by omega)]
       exact walkS_grad ts q (n+1) (i+1) t.upto (by omega) h2
      ·rw [Int.min_eq_left k2,walkS_none ts q (n+1) (i+1) q (Int.le_refl _),gradS_none _ _ _ h2 k2]
       rfl
theorem walkS_all {x:Prt} (g:GoodT x) (hk:x.kind≠2) (q:Int):walkS x.tiers q x.tiers.length 0 0=stepsP x q:=by
 unfold stepsP
 rw [if_neg hk]
 exact walkS_grad x.tiers q x.tiers.length 0 0 (by omega) g.tiers
theorem volR_reach {ts:List Tier} {q:Int} {i:Nat} {t:Tier} (h:ts[i]?=some t) (hr:reachP ts q i=q):volR q (ts.drop i)=t.rate:=by
 rw [drop_cons h]
 rcases Nat.lt_or_ge (i+1) ts.length with k|k
 ·obtain ⟨s,hs⟩:∃s,ts[i+1]?=some s:=⟨_,List.getElem?_eq_getElem k⟩
  rw [drop_cons hs]
  have e:reachP ts q i=min q t.upto:=by unfold reachP;rw [if_neg (by omega),h];rfl
  unfold volR
  rw [if_pos (by omega)]
 ·rw [List.drop_of_length_le (by omega)]
  rfl
theorem volR_more {ts:List Tier} {q:Int} {i:Nat} (h:i<ts.length) (hr:reachP ts q i≠q):i+1<ts.length∧volR q (ts.drop i)=volR q (ts.drop (i+1)):=by
 have k:i+1≠ts.length:=fun k=>hr (by unfold reachP;rw [if_pos k])
 obtain ⟨t,ht⟩:∃t,ts[i]?=some t:=⟨_,List.getElem?_eq_getElem h⟩
 obtain ⟨s,hs⟩:∃s,ts[i+1]?=some s:=⟨_,List.getElem?_eq_getElem (by omega)⟩
 have e:reachP ts q i=min q t.upto:=by unfold reachP;rw [if_neg k,ht];rfl
 refine ⟨by omega,?_⟩
 rw [drop_cons ht,drop_cons hs]
 show (if q≤t.upto then t.rate else volR q (s::ts.drop (i+1+1)))=_
 rw [if_neg (by omega)]
def SumTo (t:Int) (pre:List Stp):Prop:=I64 t∧∀rest,sumS 0 (pre++rest)=sumS t rest
theorem sumTo_nil:SumTo 0 []:=⟨by unfold I64;omega,fun _=>rfl⟩
theorem sumTo_next {t:Int} {pre:List Stp} {s:Stp} (h:SumTo t pre) (h1:I64 (stW s)) (h2:I64 (t+stW s)):SumTo (t+stW s) (pre++[s]):=by
 refine ⟨h2,fun rest=>?_⟩
 rw [List.append_assoc,h.2]
 show (if (ok64 (stW s)&&ok64 (t+stW s))=true then sumS (t+stW s) rest else none)=_
 rw [ok64_t h1,ok64_t h2]
 exact if_pos rfl
theorem sumTo_no {t:Int} {pre:List Stp} {s:Stp} (h:SumTo t pre) (hn:¬ I64 (stW s)∨¬ I64 (t+stW s)) (rest:List Stp):sumS 0 (pre++s::rest)=none:=by
 rw [h.2]
 show (if (ok64 (stW s)&&ok64 (t+stW s))=true then sumS (t+stW s) rest else none)=_
 rcases hn with k|k
 ·rw [ok64_f k];rfl
 ·rw [ok64_f k,Bool.and_false];rfl
theorem sumTo_all {t:Int} {pre:List Stp} (h:SumTo t pre):sumS 0 pre=some t:=by
 have:=h.2 []
 rw [List.append_nil] at this
 exact this
end P
namespace Ex
open Go.RowKit P
theorem ret_2 {k:IntKind} {a b:Int} {p q:Bool} (h:a=b) (h':p=q):Ending.returned (.tuple #[.int k a,.bool p])=.returned (.tuple #[.int k b,.bool q]):=by rw [h,h']
theorem add_yes (a b:Int) (w:World) (h:I64 (a+b)) :
  Calls Try.prog 23 #[.int .i64 a,.int .i64 b] w fun e w'=>e=.returned (.tuple #[.int .i64 (a+b),.bool true])∧w=w':=by
 have ht:=add_test_yes h
 have H:=hid (wrap_in h)
 clear h
 go_enter Try.func23,Try.ntmps23
 go_wp2
 go_ret2
 exact ⟨ret_2 H.out rfl,rfl⟩
theorem add_no (a b:Int) (w:World) (ha:I64 a) (hb:I64 b) (h:¬ I64 (a+b)) :
  Calls Try.prog 23 #[.int .i64 a,.int .i64 b] w fun e w'=>e=.returned (.tuple #[.int .i64 0,.bool false])∧w=w':=by
 have ht:=add_test_no ha hb h
 clear ha hb h
 go_enter Try.func23,Try.ntmps23
 go_wp2
 go_ret2
 exact ⟨rfl,rfl⟩
theorem add_any (a b:Int) (w:World) (ha:I64 a) (hb:I64 b) :
  Calls Try.prog 23 #[.int .i64 a,.int .i64 b] w fun e w'=>e=.returned (.tuple #[.int .i64 (cut64 (a+b)),.bool (ok64 (a+b))])∧w=w':=by
 by_cases h:I64 (a+b)
 ·rw [cut64_t h,ok64_t h];exact add_yes a b w h
 ·rw [cut64_f h,ok64_f h];exact add_no a b w ha hb h
theorem sub_yes (a b:Int) (w:World) (h:I64 (a-b)) :
  Calls Try.prog 37 #[.int .i64 a,.int .i64 b] w fun e w'=>e=.returned (.tuple #[.int .i64 (a-b),.bool true])∧w=w':=by
 have ht:=sub_test_yes h
 have H:=hid (wrap_in h)
 clear h
 go_enter Try.func37,Try.ntmps37
 go_wp2
 go_ret2
 exact ⟨ret_2 H.out rfl,rfl⟩
theorem sub_no (a b:Int) (w:World) (ha:I64 a) (hb:I64 b) (h:¬ I64 (a-b)) :
  Calls Try.prog 37 #[.int .i64 a,.int .i64 b] w fun e w'=>e=.returned (.tuple #[.int .i64 0,.bool false])∧w=w':=by
 have ht:=sub_test_no ha hb h
 clear ha hb h
 go_enter Try.func37,Try.ntmps37
 go_wp2
 go_ret2
 exact ⟨rfl,rfl⟩
theorem sub_any (a b:Int) (w:World) (ha:I64 a) (hb:I64 b) :
  Calls Try.prog 37 #[.int .i64 a,.int .i64 b] w fun e w'=>e=.returned (.tuple #[.int .i64 (cut64 (a-b)),.bool (ok64 (a-b))])∧w=w':=by
 by_cases h:I64 (a-b)
 ·rw [cut64_t h,ok64_t h];exact sub_yes a b w h
 ·rw [cut64_f h,ok64_f h];exact sub_no a b w ha hb h
theorem mul_any (a b:Int) (w:World) (ha:I64 a) (hb:I64 b) :
  Calls Try.prog 22 #[.int .i64 a,.int .i64 b] w fun e w'=>e=.returned (.tuple #[.int .i64 (cut64 (a*b)),.bool (ok64 (a*b))])∧w=w':=by
 by_cases h0:a=0
 ·subst h0
  rw [Int.zero_mul,cut64_t i64_0,ok64_t i64_0]
  clear ha hb
  go_enter Try.func22,Try.ntmps22
  go_wp2
  go_ret2
  exact ⟨rfl,rfl⟩
 ·by_cases h1:a = -1
  ·subst h1
   have e:(-1:Int)*b = -b:=by omega
   rw [e]
   clear e h0 ha
   have hb':Hid (I64 b):=hid hb
   clear hb
   go_enter Try.func22,Try.ntmps22
   go_wp2_with (go_at_call 37;refine (sub_any _ _ _ i64_0 hb'.out).mono ?_;rintro e w' ⟨rfl,rfl⟩;simp only [Int.zero_sub])
   go_ret2
   exact ⟨rfl,rfl⟩
  ·have e0:(a==0)=false:=by simpa using h0
   have e1:(a == -1)=false:=by simpa using h1
   by_cases h:I64 (a*b)
   ·have ht:(wrap64 ((wrap64 (a*b)).tdiv a) != b)=false:=by rw [mul_test_yes hb h0 h];simp
    have H:=hid (wrap_in h)
    have H2:=hid h
    clear ha hb h h1
    go_enter Try.func22,Try.ntmps22
    go_wp2
    go_ret2
    exact ⟨ret_2 (by rw [H.out,cut64_t H2.out]) (by rw [ok64_t H2.out]),rfl⟩
   ·have ht:(wrap64 ((wrap64 (a*b)).tdiv a) != b)=true:=by
     rcases mul_test_no ha h0 h with h2|h2
     ·simpa using h2
     ·exact absurd h2 h1
    rw [cut64_f h,ok64_f h]
    clear ha hb h h1
    go_enter Try.func22,Try.ntmps22
    go_wp2
    go_ret2
    exact ⟨rfl,rfl⟩
end Ex
namespace Te
open Go.RowKit Go.Sort P Mm Tl
theorem bel_alloc2 (w:World) (x y:Obj):Below w.heap.size w ((w.alloc x).alloc y):=bel_on (bel_alloc w x) (bel_alloc _ y)
end Te
namespace Co
open Go.RowKit Go.Sort P Mm Md R6 Tl L06 Te
theorem rbb {a b:Bool} {w w':World} {B:Nat} (h:a=b) (k:Below B w w'):(Ending.returned (.bool a):Ending)=.returned (.bool b)∧Below B w w':=⟨by rw [h],k⟩
theorem rbw {a b:Bool} {w:World} (h:a=b):(Ending.returned (.bool a):Ending)=.returned (.bool b)∧w=w:=⟨by rw [h],rfl⟩
theorem wrap_i {n:Int} (h:I64 n):IntKind.i64.wrap n=n:=by
 unfold I64 at h
 rw [IntKind.wrap_i64 n]
 omega
end Co
namespace R10
open Go.RowKit Go.Sort P Mm Md R6 Co
theorem in_any (n a b:Int) (w:World):Calls Try.prog 25 #[.int .i64 n,.int .i64 a,.int .i64 b] w fun e w'=>e=.returned (.bool (inB n a b))∧w=w':=by
 obtain ⟨R,hR⟩:∃R,R=inB n a b:=⟨_,rfl⟩
 rw [←hR]
 have HR:=hid hR
 clear hR
 by_cases h1:a≤n
 ·by_cases h2:n≤b
  ·have K:Hid (R=true):=hid (by rw [HR.out];unfold inB;rw [decide_eq_true h1,decide_eq_true h2];rfl)
   go_enter Try.func25,Try.ntmps25
   go_wp2
   go_ret
   exact rbw (by rw [K.out]<;>first|exact decide_eq_false (by omega)|exact decide_eq_true (by omega))
  ·have K:Hid (R=false):=hid (by rw [HR.out];unfold inB;rw [decide_eq_false h2,Bool.and_false])
   go_enter Try.func25,Try.ntmps25
   go_wp2
   go_ret
   exact rbw (by rw [K.out]<;>first|exact decide_eq_false (by omega)|exact decide_eq_true (by omega))
 ·have K:Hid (R=false):=hid (by rw [HR.out];unfold inB;rw [decide_eq_false h1];rfl)
  go_enter Try.func25,Try.ntmps25
  go_wp2
  go_ret
  exact rbw (by rw [K.out])
theorem span_any (c:Cor) (x y:Int) (ma:Option Addr) (mc:Nat) (sa:Option Addr) (sc:Nat) (pa:Option Addr) (pc:Nat) (w:World) :
  Calls Try.prog 24 #[.agg #[.string c.cur,.int .i64 c.a,.int .i64 c.b,.slice ma c.meters.length mc,.slice sa c.sums.length sc,.slice pa c.parts.length pc],.int .i64 x,.int .i64 y] w fun e w'=>e=.returned (.bool (spanB c.a c.b x y))∧Below w.heap.size w w':=by
 obtain ⟨R,hR⟩:∃R,R=spanB c.a c.b x y:=⟨_,rfl⟩
 rw [←hR]
 have HR:=hid hR
 have BF:=hid (bel_alloc w (.cells (corC c ma mc sa sc pa pc).toArray 49))
 unfold corC at BF
 clear hR
 by_cases h1:c.a≤x
 ·by_cases h2:x≤y
  ·by_cases h3:y≤c.b
   ·have K:Hid (R=true):=hid (by rw [HR.out];unfold spanB;rw [decide_eq_true h1,decide_eq_true h2,decide_eq_true h3];rfl)
    go_enter Try.func24,Try.ntmps24
    go_wp2
    go_ret
    exact rbb (by rw [K.out]<;>first|exact decide_eq_false (by omega)|exact decide_eq_true (by omega)) BF.out
   ·have K:Hid (R=false):=hid (by rw [HR.out];unfold spanB;rw [decide_eq_false h3,Bool.and_false])
    go_enter Try.func24,Try.ntmps24
    go_wp2
    go_ret
    exact rbb (by rw [K.out]<;>first|exact decide_eq_false (by omega)|exact decide_eq_true (by omega)) BF.out
  ·have K:Hid (R=false):=hid (by rw [HR.out];unfold spanB;rw [decide_eq_false h2,Bool.and_false,Bool.false_and])
   go_enter Try.func24,Try.ntmps24
   go_wp2
   go_ret
   exact rbb (by rw [K.out]) BF.out
 ·have K:Hid (R=false):=hid (by rw [HR.out];unfold spanB;rw [decide_eq_false h1,Bool.false_and,Bool.false_and])
  go_enter Try.func24,Try.ntmps24
  go_wp2
  go_ret
  exact rbb (by rw [K.out]) BF.out
end R10
end Go.Proofs.Ytcimcdoiiepjoaa
