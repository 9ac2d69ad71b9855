/- Plans whose rows a call has made: each in a block of its own, new and free to write. -/
import Derived.Test.YtnfehoikofiocaaJRef6
import Derived.Deep.Onto
import Derived.StillTail
import Derived.Lib.QuietBelow
import Derived.BigQuiet
import Derived.Laws.IdiomStrings
import Derived.Deep.AppendLies
import Derived.Deep.RegionHeldLaw
import Derived.OneCell
import Derived.Maps.AppendAt
import Derived.Test.YtnfehoikofiocaaJDatP
import Derived.Lib.ItoaLen
import Derived.Lib.Join
import Derived.KernelRfl
import Derived.Lib.IndexMore
import Derived.Lib.TrimByte
import Derived.Sort.Walk0
import Derived.Test.YtnfehoikofiocaaRows
import Derived.WalkKit
import Derived.ProofKit
import Derived.Deep.QuietTactic
import Derived.LoopTactic
import Derived.LoopN
set_option maxHeartbeats 400000
namespace Go.Proofs.Ytnfehoikofiocaa
namespace P
end P
namespace R6
end R6
namespace Mm
end Mm
namespace Mm
open Go.RowKit Go.Deep P R6
structure R where
 e:TypeId
 size:Nat
 a:Option Addr
 n:Nat
 cap:Nat
 xs:List Value
structure Box (W:World) (b:Nat) (cs:List Value):Prop where
 lt:b<W.heap.size
 cell:∀j u,cs[j]?=some u→W.cell? ⟨b,j,none⟩=some u
 free:∀j,W.frozen? ⟨b,j,none⟩=false
theorem Box.new (w:World) (cs:List Value) (t:TypeId):Box (w.alloc (.cells cs.toArray t)) w.heap.size cs:=by
 refine ⟨by simp,fun j u h=>?_,fun j=>?_⟩
 ·rw [World.cell?_alloc_new]
  simpa using h
 ·simp
end Mm
namespace P
open Go.RowKit Mm
theorem drop_at {α:Type} {l:List α} {i:Nat} {x:α} (h:l[i]?=some x):l.drop i=x::l.drop (i+1):=by
 obtain ⟨hi,rfl⟩:=List.getElem?_eq_some_iff.1 h
 exact List.drop_eq_getElem_cons hi
def adjO (a:Adj) (n:Int):Option Int:=
 if a.kind=1 then (if mdb (n*a.num) 100000 a.mode=true then some (mdn (n*a.num) 100000 a.mode) else none)
 else if a.kind=2 then some (min n a.num)
 else if a.kind=3 then some (max n a.num)
 else if a.kind=4 then (if ok64 (n+a.num)=true then some (n+a.num) else none)
 else none
def adjsO:Int→List Adj→Option Int
 | n,[]=>some n
 | n,a::l=>match adjO a n with
   | some m=>adjsO m l
   | none=>none
theorem adjsO_step {n:Int} {l:List Adj} {i:Nat} {a:Adj} (h:l[i]?=some a):adjsO n (l.drop i)=match adjO a n with
  | some m=>adjsO m (l.drop (i+1))
  | none=>none:=by
 rw [drop_at h]
 rfl
theorem i64_min {a b:Int} (h:I64 a) (k:I64 b):I64 (min a b):=by unfold I64 at *;omega
theorem i64_max {a b:Int} (h:I64 a) (k:I64 b):I64 (max a b):=by unfold I64 at *;omega
theorem ok64_i {n:Int} (h:ok64 n=true):I64 n:=by
 by_cases k:I64 n
 ·exact k
 ·rw [ok64_f k] at h;cases h
theorem adjO_i64 {a:Adj} {n m:Int} (hn:I64 n) (ha:I64 a.num) (h:adjO a n=some m):I64 m:=by
 unfold adjO at h
 split at h
 ·split at h
  ·obtain rfl:=Option.some.inj h
   unfold mdn
   split
   ·exact i64_cut _
   ·unfold I64;omega
  ·cases h
 ·split at h
  ·obtain rfl:=Option.some.inj h;exact i64_min hn ha
  ·split at h
   ·obtain rfl:=Option.some.inj h;exact i64_max hn ha
   ·split at h
    ·split at h
     ·obtain rfl:=Option.some.inj h;exact ok64_i (by assumption)
     ·cases h
    ·cases h
end P
namespace P
open Go.RowKit
def Cells (w:World) (b off:Nat) (xs:List Int):Prop:=∀i,i<xs.length→w.cell? ⟨b,off+i,none⟩=some (.int .i64 (xs.getD i 0))
def sumTo (t:Int):List Int→Int×Bool
 | []=>(t,true)
 | x::r=>if ok64 (t+x)=true then sumTo (t+x) r else (0,false)
theorem drop_step {xs:List Int} {k:Nat} (h:k<xs.length):xs.drop k=xs.getD k 0::xs.drop (k+1):=by
 rw [List.drop_eq_getElem_cons h,List.getD_eq_getElem?_getD,List.getElem?_eq_getElem h];rfl
def bestOf (lt:Int→Int→Bool) (m:Int):List Int→Int
 | []=>m
 | x::r=>bestOf lt (if lt x m=true then x else m) r
def ltB (a b:Int):Bool:=decide (a<b)
def gtB (a b:Int):Bool:=decide (b<a)
theorem bestOf_end (lt:Int→Int→Bool) (m:Int) {xs:List Int} {k:Nat} (h:xs.length≤k):bestOf lt m (xs.drop k)=m:=by
 rw [List.drop_eq_nil_of_le h];rfl
theorem bestOf_yes {lt:Int→Int→Bool} {m:Int} {xs:List Int} {k:Nat} (h:k<xs.length) (hi:lt (xs.getD k 0) m=true):bestOf lt m (xs.drop k)=bestOf lt (xs.getD k 0) (xs.drop (k+1)):=by
 rw [drop_step h];simp only [bestOf,if_pos hi]
theorem bestOf_no {lt:Int→Int→Bool} {m:Int} {xs:List Int} {k:Nat} (h:k<xs.length) (hi:lt (xs.getD k 0) m=false):bestOf lt m (xs.drop k)=bestOf lt m (xs.drop (k+1)):=by
 rw [drop_step h];simp only [bestOf,hi];rfl
end P
namespace Ex
open Go.RowKit P
theorem ret_2 {k:IntKind} {a b:Int} {p q:Bool} (h:a=b) (h':p=q):Ending.returned (.tuple #[.int k a,.bool p])=.returned (.tuple #[.int k b,.bool q]):=by rw [h,h']
theorem add_yes (a b:Int) (w:World) (h:I64 (a+b)) :
  Calls Try.prog 13 #[.int .i64 a,.int .i64 b] w fun e w'=>e=.returned (.tuple #[.int .i64 (a+b),.bool true])∧w=w':=by
 have ht:=add_test_yes h
 have H:=hid (wrap_in h)
 clear h
 go_enter Try.func13,Try.ntmps13
 go_wp2
 go_ret2
 exact ⟨ret_2 H.out rfl,rfl⟩
theorem add_no (a b:Int) (w:World) (ha:I64 a) (hb:I64 b) (h:¬ I64 (a+b)) :
  Calls Try.prog 13 #[.int .i64 a,.int .i64 b] w fun e w'=>e=.returned (.tuple #[.int .i64 0,.bool false])∧w=w':=by
 have ht:=add_test_no ha hb h
 clear ha hb h
 go_enter Try.func13,Try.ntmps13
 go_wp2
 go_ret2
 exact ⟨rfl,rfl⟩
theorem add_any (a b:Int) (w:World) (ha:I64 a) (hb:I64 b) :
  Calls Try.prog 13 #[.int .i64 a,.int .i64 b] w fun e w'=>e=.returned (.tuple #[.int .i64 (cut64 (a+b)),.bool (ok64 (a+b))])∧w=w':=by
 by_cases h:I64 (a+b)
 ·rw [cut64_t h,ok64_t h];exact add_yes a b w h
 ·rw [cut64_f h,ok64_f h];exact add_no a b w ha hb h
theorem least_better (a b:Int) (w:World) :
  Calls Try.prog 21 #[.int .i64 a,.int .i64 b] w fun e w'=>e=.returned (.bool (ltB a b))∧w=w':=by
 go_enter Try.func21,Try.ntmps21
 go_wp2
 go_ret
 exact ⟨rfl,rfl⟩
theorem most_better (a b:Int) (w:World) :
  Calls Try.prog 22 #[.int .i64 a,.int .i64 b] w fun e w'=>e=.returned (.bool (gtB a b))∧w=w':=by
 go_enter Try.func22,Try.ntmps22
 go_wp2
 go_ret
 exact ⟨rfl,rfl⟩
theorem best_many_least (b off cap:Nat) (x:Int) (r:List Int) (w:World) (hc:Cells w b off (x::r)) (hl:r.length≤1000000) (_hcap:r.length+1≤cap) (h1:¬ cap=1) :
  Calls Try.prog 20 #[.func (.func 21) #[] #[],.slice (some ⟨b,off,none⟩) (r.length+1) cap] w fun e w'=>e=.returned (.tuple #[.int .i64 (bestOf ltB x r),.bool true])∧w=w':=by
 have HC:Hid (Cells w b (off+1) r):=fun i hi=>by
  have:=hc (i+1) (by simpa using hi)
  rw [show off+(i+1)=off+1+i by omega] at this
  simpa using this
 have hc0:w.cell? ⟨b,off,none⟩=some (.int .i64 x):=hc 0 (by simp)
 clear hc
 have e0:(((r.length:Nat):Int)+1==0)=false:=by simp;omega
 go_enter Try.func20,Try.ntmps20
 go_wp2
 go_loop [6,18] (fun t i=>∃k:Nat,∃n:Int,k≤r.length∧i=.int .i64 k∧t=.int .i64 n∧Hid (bestOf ltB x r=bestOf ltB n (r.drop k))) (fun _ i=>r.length-(intOf i).toNat)
 case atStart=>exact ⟨0,x,Nat.zero_le _,rfl,rfl,rfl⟩
 case round=>
  obtain ⟨k,n,hk,rfl,rfl,H⟩:=hrel
  by_cases hlt:k<r.length
  ·have hcell:=HC.out k hlt
   generalize hv:r.getD k 0=v at *
   have HV:=hid hv
   clear hv
   rcases Bool.eq_false_or_eq_true (ltB v n) with hb|hb
   ·have HB:=hid hb
    clear hb
    go_wp2_with fail
    refine (least_better _ _ _).mono ?_;rintro e w' ⟨rfl,rfl⟩;rw [HB.out]
    go_wp2
    go_round
    case rel=>exact ⟨k+1,v,by omega,by go_num,rfl,by show _=_;rw [H.out,bestOf_yes hlt (by rw [HV.out];exact HB.out),HV.out]⟩
    case measure=>simp [intOf];omega
   ·have HB:=hid hb
    clear hb
    go_wp2_with fail
    refine (least_better _ _ _).mono ?_;rintro e w' ⟨rfl,rfl⟩;rw [HB.out]
    go_wp2
    go_round
    case rel=>exact ⟨k+1,n,by omega,by go_num,rfl,by show _=_;rw [H.out,bestOf_no hlt (by rw [HV.out];exact HB.out)]⟩
    case measure=>simp [intOf];omega
  ·go_wp2
   go_ret2
   exact ⟨ret_2 (by rw [H.out];exact (bestOf_end ltB n (by omega)).symm) rfl,rfl⟩
theorem best_one_least (b off:Nat) (x:Int) (w:World) (hc0:w.cell? ⟨b,off,none⟩=some (.int .i64 x)) :
  Calls Try.prog 20 #[.func (.func 21) #[] #[],.slice (some ⟨b,off,none⟩) 1 1] w fun e w'=>e=.returned (.tuple #[.int .i64 x,.bool true])∧w=w':=by
 go_enter Try.func20,Try.ntmps20
 go_wp2
 refine wp_loop_rounds 1 ?_
 rw [rounds_succ]
 go_wp2
 go_ret2
 exact ⟨rfl,rfl⟩
theorem best_any_least (b off cap:Nat) (x:Int) (r:List Int) (w:World) (hc:Cells w b off (x::r)) (hl:r.length≤1000000) (hcap:r.length+1≤cap) :
  Calls Try.prog 20 #[.func (.func 21) #[] #[],.slice (some ⟨b,off,none⟩) (r.length+1) cap] w fun e w'=>e=.returned (.tuple #[.int .i64 (bestOf ltB x r),.bool true])∧w=w':=by
 by_cases h1:cap=1
 ·have hr:r=[]:=List.eq_nil_of_length_eq_zero (by omega)
  subst h1 hr
  exact best_one_least b off x w (hc 0 (by simp))
 ·exact best_many_least b off cap x r w hc hl hcap h1
theorem best_many_most (b off cap:Nat) (x:Int) (r:List Int) (w:World) (hc:Cells w b off (x::r)) (hl:r.length≤1000000) (_hcap:r.length+1≤cap) (h1:¬ cap=1) :
  Calls Try.prog 20 #[.func (.func 22) #[] #[],.slice (some ⟨b,off,none⟩) (r.length+1) cap] w fun e w'=>e=.returned (.tuple #[.int .i64 (bestOf gtB x r),.bool true])∧w=w':=by
 have HC:Hid (Cells w b (off+1) r):=fun i hi=>by
  have:=hc (i+1) (by simpa using hi)
  rw [show off+(i+1)=off+1+i by omega] at this
  simpa using this
 have hc0:w.cell? ⟨b,off,none⟩=some (.int .i64 x):=hc 0 (by simp)
 clear hc
 have e0:(((r.length:Nat):Int)+1==0)=false:=by simp;omega
 go_enter Try.func20,Try.ntmps20
 go_wp2
 go_loop [6,18] (fun t i=>∃k:Nat,∃n:Int,k≤r.length∧i=.int .i64 k∧t=.int .i64 n∧Hid (bestOf gtB x r=bestOf gtB n (r.drop k))) (fun _ i=>r.length-(intOf i).toNat)
 case atStart=>exact ⟨0,x,Nat.zero_le _,rfl,rfl,rfl⟩
 case round=>
  obtain ⟨k,n,hk,rfl,rfl,H⟩:=hrel
  by_cases hlt:k<r.length
  ·have hcell:=HC.out k hlt
   generalize hv:r.getD k 0=v at *
   have HV:=hid hv
   clear hv
   rcases Bool.eq_false_or_eq_true (gtB v n) with hb|hb
   ·have HB:=hid hb
    clear hb
    go_wp2_with fail
    refine (most_better _ _ _).mono ?_;rintro e w' ⟨rfl,rfl⟩;rw [HB.out]
    go_wp2
    go_round
    case rel=>exact ⟨k+1,v,by omega,by go_num,rfl,by show _=_;rw [H.out,bestOf_yes hlt (by rw [HV.out];exact HB.out),HV.out]⟩
    case measure=>simp [intOf];omega
   ·have HB:=hid hb
    clear hb
    go_wp2_with fail
    refine (most_better _ _ _).mono ?_;rintro e w' ⟨rfl,rfl⟩;rw [HB.out]
    go_wp2
    go_round
    case rel=>exact ⟨k+1,n,by omega,by go_num,rfl,by show _=_;rw [H.out,bestOf_no hlt (by rw [HV.out];exact HB.out)]⟩
    case measure=>simp [intOf];omega
  ·go_wp2
   go_ret2
   exact ⟨ret_2 (by rw [H.out];exact (bestOf_end gtB n (by omega)).symm) rfl,rfl⟩
theorem best_one_most (b off:Nat) (x:Int) (w:World) (hc0:w.cell? ⟨b,off,none⟩=some (.int .i64 x)) :
  Calls Try.prog 20 #[.func (.func 22) #[] #[],.slice (some ⟨b,off,none⟩) 1 1] w fun e w'=>e=.returned (.tuple #[.int .i64 x,.bool true])∧w=w':=by
 go_enter Try.func20,Try.ntmps20
 go_wp2
 refine wp_loop_rounds 1 ?_
 rw [rounds_succ]
 go_wp2
 go_ret2
 exact ⟨rfl,rfl⟩
theorem best_any_most (b off cap:Nat) (x:Int) (r:List Int) (w:World) (hc:Cells w b off (x::r)) (hl:r.length≤1000000) (hcap:r.length+1≤cap) :
  Calls Try.prog 20 #[.func (.func 22) #[] #[],.slice (some ⟨b,off,none⟩) (r.length+1) cap] w fun e w'=>e=.returned (.tuple #[.int .i64 (bestOf gtB x r),.bool true])∧w=w':=by
 by_cases h1:cap=1
 ·have hr:r=[]:=List.eq_nil_of_length_eq_zero (by omega)
  subst h1 hr
  exact best_one_most b off x w (hc 0 (by simp))
 ·exact best_many_most b off cap x r w hc hl hcap h1
theorem least_any (b off cap:Nat) (x:Int) (r:List Int) (w:World) (hc:Cells w b off (x::r)) (hl:r.length≤1000000) (hcap:r.length+1≤cap) :
  Calls Try.prog 11 #[.slice (some ⟨b,off,none⟩) (r.length+1) cap] w fun e w'=>e=.returned (.tuple #[.int .i64 (bestOf ltB x r),.bool true])∧w=w':=by
 have HC:=hid hc
 clear hc
 go_enter Try.func11,Try.ntmps11
 go_wp2_with fail
 refine (best_any_least _ _ _ x r _ HC.out hl hcap).mono ?_;rintro e w' ⟨rfl,rfl⟩
 go_wp2
 go_ret2
 exact ⟨rfl,rfl⟩
theorem most_any (b off cap:Nat) (x:Int) (r:List Int) (w:World) (hc:Cells w b off (x::r)) (hl:r.length≤1000000) (hcap:r.length+1≤cap) :
  Calls Try.prog 12 #[.slice (some ⟨b,off,none⟩) (r.length+1) cap] w fun e w'=>e=.returned (.tuple #[.int .i64 (bestOf gtB x r),.bool true])∧w=w':=by
 have HC:=hid hc
 clear hc
 go_enter Try.func12,Try.ntmps12
 go_wp2_with fail
 refine (best_any_most _ _ _ x r _ HC.out hl hcap).mono ?_;rintro e w' ⟨rfl,rfl⟩
 go_wp2
 go_ret2
 exact ⟨rfl,rfl⟩
end Ex
end Go.Proofs.Ytnfehoikofiocaa
