/- What the document's answers for layer 5 (poundageref05) come to: Lex. -/
import Derived.Test.YtofbobdhkbmbgaaGreatDoorJParP
import Derived.Test.YtofbobdhkbmbgaaGreatDoorJRef4
import Derived.Test.YtofbobdhkbmbgaaGreatDoorRows
import Derived.Test.YtofbobdhkbmbgaaGreatDoorJDatB
import Derived.Test.YtofbobdhkbmbgaaGreatDoorJLexR
import Derived.Test.YtofbobdhkbmbgaaGreatDoorJPureS
import Derived.WalkKit
import Derived.ProofKit
import Derived.BigQuiet
import Derived.Deep.QuietTactic
import Derived.WalkSmall
import Derived.LoopN
import Derived.Test.YtofbobdhkbmbgaaGreatDoorJRef6d
import Derived.Lib.QuietBelow
import Derived.Deep.CutBlock
import Derived.Deep.RegionHeld3
import Derived.Deep.DeepCutAuto
namespace Go.Proofs.YtofbobdhkbmbgaaGreatDoor.R5
open Go.RowKit P R4
/-- Tokens as the program holds them: four cells each. -/
def tokCells (ts:List Tok):List Value:=ts.flatMap fun t=>[.int .i64 t.k,.string ⟨t.t.toArray⟩,.int .i64 t.ln,.int .i64 t.cl]
theorem tokCells_snoc (ts:List Tok) (t:Tok):tokCells (ts++[t])=tokCells ts++[.int .i64 t.k,.string ⟨t.t.toArray⟩,.int .i64 t.ln,.int .i64 t.cl]:=by unfold tokCells;simp
/-- What is owned stays owned behind calls that leave old blocks alone. -/
theorem owns_below {w w1:World} {base:Nat} {e:TypeId} {size n:Nat} {v:Value} {xs:List Value} (h:w.ownsRow base e size v n xs) (b:Below w.heap.size w w1):w1.ownsRow base e size v n xs:=by
 refine ⟨h.1,?_⟩
 rcases h.2 with h2|⟨g,cap,cur,h1,h2,h3,h4⟩
 ·exact .inl h2
 ·have hg:g<w.heap.size:=by
   rcases Nat.lt_or_ge g w.heap.size with k|k
   ·exact k
   ·rw [Array.getElem?_eq_none k] at h3;cases h3
  exact .inr ⟨g,cap,cur,h1,h2,by rw [b.block g hg];exact h3,h4⟩
end Go.Proofs.YtofbobdhkbmbgaaGreatDoor.R5
/- What each call of package exact answers, for all numbers of 64 bits: contracts over the walked program. -/
namespace Go.Proofs.YtofbobdhkbmbgaaGreatDoor.Ex
open Go.RowKit P
theorem ret_2 {k:IntKind} {a b:Int} {p q:Bool} (h:a=b) (h':p=q):Ending.returned (.tuple #[.int k a,.bool p])=.returned (.tuple #[.int k b,.bool q]):=by rw [h,h']
theorem add_yes (a b:Int) (w:World) (h:I64 (a+b)) :
  Calls Tryz.prog 120 #[.int .i64 a,.int .i64 b] w fun e w'=>e=.returned (.tuple #[.int .i64 (a+b),.bool true])∧w=w':=by
 have ht:=add_test_yes h
 have H:=hid (wrap_in h)
 clear h
 go_enter Tryz.func120,Tryz.ntmps120
 go_wp2
 go_ret2
 exact ⟨ret_2 H.out rfl,rfl⟩
theorem add_no (a b:Int) (w:World) (ha:I64 a) (hb:I64 b) (h:¬ I64 (a+b)) :
  Calls Tryz.prog 120 #[.int .i64 a,.int .i64 b] w fun e w'=>e=.returned (.tuple #[.int .i64 0,.bool false])∧w=w':=by
 have ht:=add_test_no ha hb h
 clear ha hb h
 go_enter Tryz.func120,Tryz.ntmps120
 go_wp2
 go_ret2
 exact ⟨rfl,rfl⟩
theorem add_any (a b:Int) (w:World) (ha:I64 a) (hb:I64 b) :
  Calls Tryz.prog 120 #[.int .i64 a,.int .i64 b] w fun e w'=>e=.returned (.tuple #[.int .i64 (cut64 (a+b)),.bool (ok64 (a+b))])∧w=w':=by
 by_cases h:I64 (a+b)
 ·rw [cut64_t h,ok64_t h];exact add_yes a b w h
 ·rw [cut64_f h,ok64_f h];exact add_no a b w ha hb h
theorem sub_yes (a b:Int) (w:World) (h:I64 (a-b)) :
  Calls Tryz.prog 239 #[.int .i64 a,.int .i64 b] w fun e w'=>e=.returned (.tuple #[.int .i64 (a-b),.bool true])∧w=w':=by
 have ht:=sub_test_yes h
 have H:=hid (wrap_in h)
 clear h
 go_enter Tryz.func239,Tryz.ntmps239
 go_wp2
 go_ret2
 exact ⟨ret_2 H.out rfl,rfl⟩
theorem sub_no (a b:Int) (w:World) (ha:I64 a) (hb:I64 b) (h:¬ I64 (a-b)) :
  Calls Tryz.prog 239 #[.int .i64 a,.int .i64 b] w fun e w'=>e=.returned (.tuple #[.int .i64 0,.bool false])∧w=w':=by
 have ht:=sub_test_no ha hb h
 clear ha hb h
 go_enter Tryz.func239,Tryz.ntmps239
 go_wp2
 go_ret2
 exact ⟨rfl,rfl⟩
theorem sub_any (a b:Int) (w:World) (ha:I64 a) (hb:I64 b) :
  Calls Tryz.prog 239 #[.int .i64 a,.int .i64 b] w fun e w'=>e=.returned (.tuple #[.int .i64 (cut64 (a-b)),.bool (ok64 (a-b))])∧w=w':=by
 by_cases h:I64 (a-b)
 ·rw [cut64_t h,ok64_t h];exact sub_yes a b w h
 ·rw [cut64_f h,ok64_f h];exact sub_no a b w ha hb h
theorem mul_any (a b:Int) (w:World) (ha:I64 a) (hb:I64 b) :
  Calls Tryz.prog 223 #[.int .i64 a,.int .i64 b] w fun e w'=>e=.returned (.tuple #[.int .i64 (cut64 (a*b)),.bool (ok64 (a*b))])∧w=w':=by
 by_cases h0:a=0
 ·subst h0
  rw [Int.zero_mul,cut64_t i64_0,ok64_t i64_0]
  clear ha hb
  go_enter Tryz.func223,Tryz.ntmps223
  go_wp2
  go_ret2
  exact ⟨rfl,rfl⟩
 ·by_cases h1:a = -1
  ·subst h1
   have e:(-1:Int)*b = -b:=by omega
   rw [e]
   clear e h0 ha
   have hb':Hid (I64 b):=hid hb
   clear hb
   go_enter Tryz.func223,Tryz.ntmps223
   go_wp2_with (go_at_call 239;refine (sub_any _ _ _ i64_0 hb'.out).mono ?_;rintro e w' ⟨rfl,rfl⟩;simp only [Int.zero_sub])
   go_ret2
   exact ⟨rfl,rfl⟩
  ·have e0:(a==0)=false:=by simpa using h0
   have e1:(a == -1)=false:=by simpa using h1
   by_cases h:I64 (a*b)
   ·have ht:(wrap64 ((wrap64 (a*b)).tdiv a) != b)=false:=by rw [mul_test_yes hb h0 h];simp
    have H:=hid (wrap_in h)
    have H2:=hid h
    clear ha hb h h1
    go_enter Tryz.func223,Tryz.ntmps223
    go_wp2
    go_ret2
    exact ⟨ret_2 (by rw [H.out,cut64_t H2.out]) (by rw [ok64_t H2.out]),rfl⟩
   ·have ht:(wrap64 ((wrap64 (a*b)).tdiv a) != b)=true:=by
     rcases mul_test_no ha h0 h with h2|h2
     ·simpa using h2
     ·exact absurd h2 h1
    rw [cut64_f h,ok64_f h]
    clear ha hb h h1
    go_enter Tryz.func223,Tryz.ntmps223
    go_wp2
    go_ret2
    exact ⟨rfl,rfl⟩
end Go.Proofs.YtofbobdhkbmbgaaGreatDoor.Ex
/- What the document's answers for layer 7 (poundageref07) come to: the parser in memory; what is wrong. -/
namespace Go.Proofs.YtofbobdhkbmbgaaGreatDoor.R7
open Go.RowKit Go.Sort P Tl
theorem grown_refl (w:World) (row:Option Nat):w.grownBy w row:=⟨rfl,rfl,rfl,Nat.le_refl _,fun _ _ _=>rfl⟩
theorem grown_trans {w w1 w2:World} {row:Option Nat} (a:w.grownBy w1 row) (b:w1.grownBy w2 row):w.grownBy w2 row:=
 ⟨b.os.trans a.os,b.tape.trans a.tape,b.output.trans a.output,Nat.le_trans a.size b.size,fun k hk hne=>(b.block k (Nat.lt_of_lt_of_le hk a.size) hne).trans (a.block k hk hne)⟩
theorem grown_below {w w1:World} {row:Option Nat} (a:Below w.heap.size w w1):w.grownBy w1 row:=⟨a.os,a.tape,a.output,a.size,fun k hk _=>a.block k hk⟩
end Go.Proofs.YtofbobdhkbmbgaaGreatDoor.R7
/- What the document's answers for layer 7 (poundageref07) come to: window. -/
namespace Go.Proofs.YtofbobdhkbmbgaaGreatDoor.R7
open Go.RowKit Go.Sort P Tl
/-- A struct's block. -/
structure Bx (W:World) (b:Nat) (cs:List Value):Prop where
 lt:b<W.heap.size
 cell:∀j u,cs[j]?=some u→W.cell? ⟨b,j,none⟩=some u
 free:∀j,W.frozen? ⟨b,j,none⟩=false
theorem Bx.new (w:World) (cs:List Value) (t:TypeId):Bx (w.alloc (.cells cs.toArray t)) w.heap.size cs:=by
 refine ⟨by simp,fun j u h=>?_,fun j=>?_⟩
 ·rw [World.cell?_alloc_new]
  simpa using h
 ·simp
end Go.Proofs.YtofbobdhkbmbgaaGreatDoor.R7
