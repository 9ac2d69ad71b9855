/- Package show, walked: a plan's text. -/
import Derived.Test.YtofbobdhkbmbgaaGreatDoorJKz
namespace Go.Proofs.YtofbobdhkbmbgaaGreatDoor
namespace Sw
open Go.RowKit Go.Sort P Mm Md
theorem range_at {W:World} {b o:Nat} {x:Charge} {ta:Option Addr} {tc:Nat} {aa:Option Addr} {ac:Nat} (h:R6.ChargeAt W b o x ta tc aa ac):W.rangeAt b o (chargeC x ta tc aa ac):=by
 obtain ⟨_,a0,a1,a2,a3,a4,a5,a6,a7,a8,a9,a10,a11,a12,a13,a14,a15⟩:=h;intro j v hj
 match j,hj with
 | 0,hj=>cases hj;exact a0
 | 1,hj=>cases hj;exact a1
 | 2,hj=>cases hj;exact a2
 | 3,hj=>cases hj;exact a3
 | 4,hj=>cases hj;exact a4
 | 5,hj=>cases hj;exact a5
 | 6,hj=>cases hj;exact a6
 | 7,hj=>cases hj;exact a7
 | 8,hj=>cases hj;exact a8
 | 9,hj=>cases hj;exact a9
 | 10,hj=>cases hj;exact a10
 | 11,hj=>cases hj;exact a11
 | 12,hj=>cases hj;exact a12
 | 13,hj=>cases hj;exact a13
 | 14,hj=>cases hj;exact a14
 | 15,hj=>cases hj;exact a15
 | j+16,hj=>cases hj
theorem headT8_len {p:Plan} (h:p.name.size≤100000∧p.cur.size≤100000):(headT8 p).length≤300000:=by
 have h1:=dayT_len p.a;have h2:=dayT_len p.b;unfold headT8;rw [List.length_append,tellT_len,tellT_len,join4,join3];simp only [List.length_append,List.length_cons,List.length_nil,size_list,wPlan,wCurrency,wHorizon];omega
section
end
end Sw
end Go.Proofs.YtofbobdhkbmbgaaGreatDoor
