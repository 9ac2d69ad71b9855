/- What the document's answers for layer 1 (poundageref01) come to: wide numbers as whole numbers. -/
import Derived.Test.YtofbobdhkbmbgaaGreatDoorJExact
set_option maxRecDepth 100000
set_option maxHeartbeats 4000000
namespace Go.Proofs.YtofbobdhkbmbgaaGreatDoor
namespace R1
open Go.RowKit P
def wide (s:Bool) (m:Nat):Value:=.agg #[.bool s,.int .u64 (hiN m),.int .u64 (loN m)]
def W (v:Int):Value:=wide (decide (v<0)) v.natAbs
theorem wide_eq {s:Bool} {a b:Int} {m:Nat} (ha:a=hiN m) (hb:b=loN m):Value.agg #[.bool s,.int .u64 a,.int .u64 b]=wide s m:=by unfold wide;rw [ha,hb]
theorem of_any (a:Int) (w:World) (ha:I64 a) :
  Calls Tryz.prog 155 #[.int .i64 a] w fun e w'=>e=.returned (W a)∧Below w.heap.size w w':=by
 have hh:hiN a.natAbs=0:=hiN_small (by unfold I64 at ha;omega);have hl:loN a.natAbs=a.natAbs:=loN_small (by unfold I64 at ha;omega);by_cases h:a<0
 ·have e:IntKind.u64.wrap (IntKind.u64.wrap (wrap64 (-wrap64 (a+1)))+1)=loN a.natAbs:=by
   rw [hl,wrap_in (n:=a+1) (by unfold I64 at *;omega),wrap_in (n:=-(a+1)) (by unfold I64 at *;omega),u64_mod,u64_mod];unfold I64 at ha;omega
  have r:Value.agg #[.bool true,.int .u64 0,.int .u64 (IntKind.u64.wrap (IntKind.u64.wrap (wrap64 (-wrap64 (a+1)))+1))]=W a:=by
   unfold W;rw [decide_eq_true h];exact wide_eq (by rw [hh];rfl) e
  have R:=hid r;clear r e hh hl ha;go_enter Tryz.func155,Tryz.ntmps155
  go_wp2
  exact bodyPost_ret (v:=.agg #[.bool true,.int .u64 0,.int .u64 (IntKind.u64.wrap (IntKind.u64.wrap (wrap64 (-wrap64 (a+1)))+1))])
   (by simp [results,Tryz.results155,go_sem]) rfl ⟨by rw [R.out],(Below.refl _ _).alloc (Nat.le_refl _) _⟩
 ·have e:IntKind.u64.wrap a=loN a.natAbs:=by rw [hl,u64_mod];unfold I64 at ha;omega
  have r:Value.agg #[.bool false,.int .u64 0,.int .u64 (IntKind.u64.wrap a)]=W a:=by
   unfold W;rw [decide_eq_false h];exact wide_eq (by rw [hh];rfl) e
  have R:=hid r;clear r e hh hl ha;go_enter Tryz.func155,Tryz.ntmps155
  go_wp2
  exact bodyPost_ret (v:=.agg #[.bool false,.int .u64 0,.int .u64 (IntKind.u64.wrap a)])
   (by simp [results,Tryz.results155,go_sem]) rfl ⟨by rw [R.out],(Below.refl _ _).alloc (Nat.le_refl _) _⟩
theorem zero_any (s:Bool) (m:Nat) (w:World) :
  Calls Tryz.prog 197 #[wide s m] w fun e w'=>e=.returned (.bool (m==0))∧Below w.heap.size w w':=by
 rw [←zero_iff];unfold wide;rcases Bool.eq_false_or_eq_true (((hiN m:Nat):Int)==0) with h|h
 all_goals
  go_enter Tryz.func197,Tryz.ntmps197
  go_wp2;go_ret;exact ⟨by rw [h];simp,(Below.refl _ _).alloc (Nat.le_refl _) _⟩
theorem plus_any (s t:Bool) (m n:Nat) (w:World) (hs:m+n<two128) :
  Calls Tryz.prog 196 #[wide s m,wide t n] w fun e w'=>e=.returned (wide false (m+n))∧Below w.heap.size w w':=by
 have el:=plus_lo m n;by_cases h:18446744073709551616≤loN m+loN n
 ·have ht:=plus_test_yes h;have r:Value.agg #[.bool false,.int .u64 (IntKind.u64.wrap (IntKind.u64.wrap ((hiN m:Int)+(hiN n:Int))+1)),.int .u64 (IntKind.u64.wrap ((loN m:Int)+(loN n:Int)))]=wide false (m+n):=wide_eq (plus_hi_yes hs h) el;have R:=hid r;clear r el h hs;unfold wide;go_enter Tryz.func196,Tryz.ntmps196
  go_wp2
  exact bodyPost_ret (v:=.agg #[.bool false,.int .u64 (IntKind.u64.wrap (IntKind.u64.wrap ((hiN m:Int)+(hiN n:Int))+1)),.int .u64 (IntKind.u64.wrap ((loN m:Int)+(loN n:Int)))])
   (by simp [results,Tryz.results196,go_sem]) rfl ⟨by rw [R.out];rfl,((((Below.refl _ _).alloc (Nat.le_refl _) _).alloc (by simp) _).alloc (by first|omega|(simp<;>omega)) _)⟩
 ·have ht:=plus_test_no h;have r:Value.agg #[.bool false,.int .u64 (IntKind.u64.wrap ((hiN m:Int)+(hiN n:Int))),.int .u64 (IntKind.u64.wrap ((loN m:Int)+(loN n:Int)))]=wide false (m+n):=wide_eq (plus_hi_no hs h) el;have R:=hid r;clear r el h hs;unfold wide;go_enter Tryz.func196,Tryz.ntmps196
  go_wp2
  exact bodyPost_ret (v:=.agg #[.bool false,.int .u64 (IntKind.u64.wrap ((hiN m:Int)+(hiN n:Int))),.int .u64 (IntKind.u64.wrap ((loN m:Int)+(loN n:Int)))])
   (by simp [results,Tryz.results196,go_sem]) rfl ⟨by rw [R.out];rfl,((((Below.refl _ _).alloc (Nat.le_refl _) _).alloc (by simp) _).alloc (by first|omega|(simp<;>omega)) _)⟩
theorem minus_any (s t:Bool) (m n:Nat) (w:World) (hs:m<two128) (hn:n≤m) :
  Calls Tryz.prog 199 #[wide s m,wide t n] w fun e w'=>e=.returned (wide false (m-n))∧Below w.heap.size w w':=by
 have el:=minus_lo hn;by_cases h:loN m<loN n
 ·have ht:=min_test_yes h;have r:Value.agg #[.bool false,.int .u64 (IntKind.u64.wrap (IntKind.u64.wrap ((hiN m:Int)-(hiN n:Int))-1)),.int .u64 (IntKind.u64.wrap ((loN m:Int)-(loN n:Int)))]=wide false (m-n):=wide_eq (minus_hi_yes hs hn h) el;have R:=hid r;clear r el h hs hn;unfold wide;go_enter Tryz.func199,Tryz.ntmps199
  go_wp2
  exact bodyPost_ret (v:=.agg #[.bool false,.int .u64 (IntKind.u64.wrap (IntKind.u64.wrap ((hiN m:Int)-(hiN n:Int))-1)),.int .u64 (IntKind.u64.wrap ((loN m:Int)-(loN n:Int)))])
   (by simp [results,Tryz.results199,go_sem]) rfl ⟨by rw [R.out];rfl,((((Below.refl _ _).alloc (Nat.le_refl _) _).alloc (by simp) _).alloc (by first|omega|(simp<;>omega)) _)⟩
 ·have ht:=min_test_no h;have r:Value.agg #[.bool false,.int .u64 (IntKind.u64.wrap ((hiN m:Int)-(hiN n:Int))),.int .u64 (IntKind.u64.wrap ((loN m:Int)-(loN n:Int)))]=wide false (m-n):=wide_eq (minus_hi_no hs hn h) el;have R:=hid r;clear r el h hs hn;unfold wide;go_enter Tryz.func199,Tryz.ntmps199
  go_wp2
  exact bodyPost_ret (v:=.agg #[.bool false,.int .u64 (IntKind.u64.wrap ((hiN m:Int)-(hiN n:Int))),.int .u64 (IntKind.u64.wrap ((loN m:Int)-(loN n:Int)))])
   (by simp [results,Tryz.results199,go_sem]) rfl ⟨by rw [R.out];rfl,((((Below.refl _ _).alloc (Nat.le_refl _) _).alloc (by simp) _).alloc (by first|omega|(simp<;>omega)) _)⟩
theorem size_any (s t:Bool) (m n:Nat) (w:World) :
  Calls Tryz.prog 198 #[wide s m,wide t n] w fun e w'=>e=.returned (.bool (decide (m<n)))∧Below w.heap.size w w':=by
 rw [←size_iff];unfold wide;rcases Bool.eq_false_or_eq_true (decide (hiN m<hiN n)) with h|h
 ·go_enter Tryz.func198,Tryz.ntmps198
  go_wp2;go_ret;exact ⟨by simp [h],((Below.refl _ _).alloc (Nat.le_refl _) _).alloc (by simp) _⟩
 ·rcases Bool.eq_false_or_eq_true ((hiN m:Int)==(hiN n:Int)) with h'|h'
  all_goals
   go_enter Tryz.func198,Tryz.ntmps198
   go_wp2;go_ret;exact ⟨by simp only [h,h',Bool.false_or,Bool.true_and,Bool.false_and];rfl,((Below.refl _ _).alloc (Nat.le_refl _) _).alloc (by simp) _⟩
theorem bcell {W w1:World} (hb:Below W.heap.size W w1):(∀b o,b<W.heap.size→w1.cell? ⟨b,o,none⟩=W.cell? ⟨b,o,none⟩)∧(∀b o,b<W.heap.size→w1.frozen? ⟨b,o,none⟩=W.frozen? ⟨b,o,none⟩):=
 ⟨fun b o h=>hb.cell (p:=⟨b,o,none⟩) h,fun b o h=>hb.frozen (p:=⟨b,o,none⟩) h⟩
theorem below_via {B:Nat} {w W w1:World} (h:Below B w W) (hb:Below W.heap.size W w1) (hB:B≤W.heap.size):Below B w w1:=h.trans (hb.mono hB)
theorem add_like (s:Bool) (m n:Nat) (w:World) (hs:m+n<two128) (h0:s=true→(m+n==0)=false) :
  Calls Tryz.prog 154 #[wide s m,wide s n] w fun e w'=>e=.returned (wide s (m+n))∧Below w.heap.size w w':=by
 have HS:=hid hs;clear hs;cases s
 ·have H0:=hid h0;clear h0;unfold wide;go_enter Tryz.func154,Tryz.ntmps154
  go_wp2_with fail
  refine (plus_any _ _ _ _ _ HS.out).mono ?_;rintro e w1 ⟨rfl,hb1⟩;unfold wide;obtain ⟨hc1,hf1⟩:=bcell hb1;obtain ⟨k0,k1,k2⟩:w.heap.size<w1.heap.size∧w.heap.size+1<w1.heap.size∧w.heap.size+1+1<w1.heap.size:=by have:=hb1.size;simp at this;omega
  go_wp2
  refine bodyPost_ret (v:=.agg #[.bool false,.int .u64 (hiN (m+n)),.int .u64 (loN (m+n))])
   (by simp only [results,Tryz.results154];go_simp) rfl ⟨rfl,?_⟩
  repeat (first|(refine Below.setCell ?_ (by first|omega|(simp<;>omega)) _)|(refine Below.alloc ?_ (by first|omega|(simp<;>omega)) _)|(refine below_via ?_ hb1 (by first|omega|(simp<;>omega)))|exact Below.refl _ _)
 ·have h1:(m+n==0)=false:=h0 rfl;clear h0;unfold wide;go_enter Tryz.func154,Tryz.ntmps154
  go_wp2_with fail
  refine (plus_any _ _ _ _ _ HS.out).mono ?_;rintro e w1 ⟨rfl,hb1⟩;unfold wide;obtain ⟨hc1,hf1⟩:=bcell hb1;obtain ⟨k0,k1,k2⟩:w.heap.size<w1.heap.size∧w.heap.size+1<w1.heap.size∧w.heap.size+1+1<w1.heap.size:=by have:=hb1.size;simp at this;omega
  go_wp2_with fail
  refine (zero_any _ _ _).mono ?_;rintro e w2 ⟨rfl,hb2⟩;rw [h1];obtain ⟨hc2,hf2⟩:=bcell hb2;have k3:w1.heap.size<w2.heap.size:=by have:=hb2.size;simp at this;omega
  obtain ⟨k4,k5,k6⟩:w.heap.size<w2.heap.size∧w.heap.size+1<w2.heap.size∧w.heap.size+1+1<w2.heap.size:=⟨by omega,by omega,by omega⟩;go_wp2
  refine bodyPost_ret (v:=.agg #[.bool true,.int .u64 (hiN (m+n)),.int .u64 (loN (m+n))])
   (by simp only [results,Tryz.results154];go_simp) rfl ⟨rfl,?_⟩
  repeat (first|(refine Below.setCell ?_ (by first|omega|(simp<;>omega)) _)|(refine Below.alloc ?_ (by first|omega|(simp<;>omega)) _)|(refine below_via ?_ hb2 (by first|omega|(simp<;>omega)))|(refine below_via ?_ hb1 (by first|omega|(simp<;>omega)))|exact Below.refl _ _)
theorem add_tf_lt (m n:Nat) (w:World) (hm:m<two128) (hn:n<two128) (h:m<n) :
  Calls Tryz.prog 154 #[wide true m,wide false n] w fun e w'=>e=.returned (wide false (n-m))∧Below w.heap.size w w':=by
 have ht:decide (m<n)=true:=by simp;omega
 have HM:=hid hm;have HN:=hid hn;have H:=hid h;clear hm hn h;unfold wide;go_enter Tryz.func154,Tryz.ntmps154
 go_wp2_with fail
 refine (size_any _ _ _ _ _).mono ?_;rintro e w1 ⟨rfl,hb1⟩;rw [ht];obtain ⟨hc1,hf1⟩:=bcell hb1;obtain ⟨k0,k1,k2⟩:w.heap.size<w1.heap.size∧w.heap.size+1<w1.heap.size∧w.heap.size+1+1<w1.heap.size:=by have:=hb1.size;simp at this;omega
 go_wp2_with fail
 refine (minus_any _ _ _ _ _ HN.out (by have:=H.out;omega)).mono ?_;rintro e w2 ⟨rfl,hb2⟩;unfold wide;obtain ⟨hc2,hf2⟩:=bcell hb2;have j0:w1.heap.size≤w2.heap.size:=hb2.size;obtain ⟨j1,j2,j3⟩:w.heap.size<w2.heap.size∧w.heap.size+1<w2.heap.size∧w.heap.size+1+1<w2.heap.size:=⟨by omega,by omega,by omega⟩;go_wp2
 refine bodyPost_ret (v:=.agg #[.bool false,.int .u64 (hiN (n-m)),.int .u64 (loN (n-m))])
  (by simp only [results,Tryz.results154];go_simp) rfl ⟨rfl,?_⟩
 repeat (first|(refine Below.setCell ?_ (by first|omega|(simp<;>omega)) _)|(refine Below.alloc ?_ (by first|omega|(simp<;>omega)) _)|(refine below_via ?_ hb2 (by first|omega|(simp<;>omega)))|(refine below_via ?_ hb1 (by first|omega|(simp<;>omega)))|exact Below.refl _ _)
theorem add_ft_lt (m n:Nat) (w:World) (hm:m<two128) (hn:n<two128) (h:m<n) (h0:(n-m==0)=false) :
  Calls Tryz.prog 154 #[wide false m,wide true n] w fun e w'=>e=.returned (wide true (n-m))∧Below w.heap.size w w':=by
 have ht:decide (m<n)=true:=by simp;omega
 have HM:=hid hm;have HN:=hid hn;have H:=hid h;clear hm hn h;unfold wide;go_enter Tryz.func154,Tryz.ntmps154
 go_wp2_with fail
 refine (size_any _ _ _ _ _).mono ?_;rintro e w1 ⟨rfl,hb1⟩;rw [ht];obtain ⟨hc1,hf1⟩:=bcell hb1;obtain ⟨k0,k1,k2⟩:w.heap.size<w1.heap.size∧w.heap.size+1<w1.heap.size∧w.heap.size+1+1<w1.heap.size:=by have:=hb1.size;simp at this;omega
 go_wp2_with fail
 refine (minus_any _ _ _ _ _ HN.out (by have:=H.out;omega)).mono ?_;rintro e w2 ⟨rfl,hb2⟩;unfold wide;obtain ⟨hc2,hf2⟩:=bcell hb2;have j0:w1.heap.size≤w2.heap.size:=hb2.size;obtain ⟨j1,j2,j3⟩:w.heap.size<w2.heap.size∧w.heap.size+1<w2.heap.size∧w.heap.size+1+1<w2.heap.size:=⟨by omega,by omega,by omega⟩;go_wp2_with fail
 refine (zero_any _ _ _).mono ?_;rintro e w3 ⟨rfl,hb3⟩;rw [h0];obtain ⟨hc3,hf3⟩:=bcell hb3;have i0:w2.heap.size<w3.heap.size:=by have:=hb3.size;simp at this;omega
 obtain ⟨i1,i2,i3⟩:w.heap.size<w3.heap.size∧w.heap.size+1<w3.heap.size∧w.heap.size+1+1<w3.heap.size:=⟨by omega,by omega,by omega⟩;go_wp2
 refine bodyPost_ret (v:=.agg #[.bool true,.int .u64 (hiN (n-m)),.int .u64 (loN (n-m))])
  (by simp only [results,Tryz.results154];go_simp) rfl ⟨rfl,?_⟩
 repeat (first|(refine Below.setCell ?_ (by first|omega|(simp<;>omega)) _)|(refine Below.alloc ?_ (by first|omega|(simp<;>omega)) _)|(refine below_via ?_ hb3 (by first|omega|(simp<;>omega)))|(refine below_via ?_ hb2 (by first|omega|(simp<;>omega)))|(refine below_via ?_ hb1 (by first|omega|(simp<;>omega)))|exact Below.refl _ _)
theorem add_ft_ge (m n:Nat) (w:World) (hm:m<two128) (hn:n<two128) (h:n≤m) :
  Calls Tryz.prog 154 #[wide false m,wide true n] w fun e w'=>e=.returned (wide false (m-n))∧Below w.heap.size w w':=by
 have ht:decide (m<n)=false:=by simp;omega
 have HM:=hid hm;have HN:=hid hn;have H:=hid h;clear hm hn h;unfold wide;go_enter Tryz.func154,Tryz.ntmps154
 go_wp2_with fail
 refine (size_any _ _ _ _ _).mono ?_;rintro e w1 ⟨rfl,hb1⟩;rw [ht];obtain ⟨hc1,hf1⟩:=bcell hb1;obtain ⟨k0,k1,k2⟩:w.heap.size<w1.heap.size∧w.heap.size+1<w1.heap.size∧w.heap.size+1+1<w1.heap.size:=by have:=hb1.size;simp at this;omega
 go_wp2_with fail
 refine (minus_any _ _ _ _ _ HM.out (by have:=H.out;omega)).mono ?_;rintro e w2 ⟨rfl,hb2⟩;unfold wide;obtain ⟨hc2,hf2⟩:=bcell hb2;have j0:w1.heap.size≤w2.heap.size:=hb2.size;obtain ⟨j1,j2,j3⟩:w.heap.size<w2.heap.size∧w.heap.size+1<w2.heap.size∧w.heap.size+1+1<w2.heap.size:=⟨by omega,by omega,by omega⟩;go_wp2
 refine bodyPost_ret (v:=.agg #[.bool false,.int .u64 (hiN (m-n)),.int .u64 (loN (m-n))])
  (by simp only [results,Tryz.results154];go_simp) rfl ⟨rfl,?_⟩
 repeat (first|(refine Below.setCell ?_ (by first|omega|(simp<;>omega)) _)|(refine Below.alloc ?_ (by first|omega|(simp<;>omega)) _)|(refine below_via ?_ hb2 (by first|omega|(simp<;>omega)))|(refine below_via ?_ hb1 (by first|omega|(simp<;>omega)))|exact Below.refl _ _)
theorem add_tf_gt (m n:Nat) (w:World) (hm:m<two128) (hn:n<two128) (h:n≤m) (h0:(m-n==0)=false) :
  Calls Tryz.prog 154 #[wide true m,wide false n] w fun e w'=>e=.returned (wide true (m-n))∧Below w.heap.size w w':=by
 have ht:decide (m<n)=false:=by simp;omega
 have HM:=hid hm;have HN:=hid hn;have H:=hid h;clear hm hn h;unfold wide;go_enter Tryz.func154,Tryz.ntmps154
 go_wp2_with fail
 refine (size_any _ _ _ _ _).mono ?_;rintro e w1 ⟨rfl,hb1⟩;rw [ht];obtain ⟨hc1,hf1⟩:=bcell hb1;obtain ⟨k0,k1,k2⟩:w.heap.size<w1.heap.size∧w.heap.size+1<w1.heap.size∧w.heap.size+1+1<w1.heap.size:=by have:=hb1.size;simp at this;omega
 go_wp2_with fail
 refine (minus_any _ _ _ _ _ HM.out (by have:=H.out;omega)).mono ?_;rintro e w2 ⟨rfl,hb2⟩;unfold wide;obtain ⟨hc2,hf2⟩:=bcell hb2;have j0:w1.heap.size≤w2.heap.size:=hb2.size;obtain ⟨j1,j2,j3⟩:w.heap.size<w2.heap.size∧w.heap.size+1<w2.heap.size∧w.heap.size+1+1<w2.heap.size:=⟨by omega,by omega,by omega⟩;go_wp2_with fail
 refine (zero_any _ _ _).mono ?_;rintro e w3 ⟨rfl,hb3⟩;rw [h0];obtain ⟨hc3,hf3⟩:=bcell hb3;have i0:w2.heap.size<w3.heap.size:=by have:=hb3.size;simp at this;omega
 obtain ⟨i1,i2,i3⟩:w.heap.size<w3.heap.size∧w.heap.size+1<w3.heap.size∧w.heap.size+1+1<w3.heap.size:=⟨by omega,by omega,by omega⟩;go_wp2
 refine bodyPost_ret (v:=.agg #[.bool true,.int .u64 (hiN (m-n)),.int .u64 (loN (m-n))])
  (by simp only [results,Tryz.results154];go_simp) rfl ⟨rfl,?_⟩
 repeat (first|(refine Below.setCell ?_ (by first|omega|(simp<;>omega)) _)|(refine Below.alloc ?_ (by first|omega|(simp<;>omega)) _)|(refine below_via ?_ hb3 (by first|omega|(simp<;>omega)))|(refine below_via ?_ hb2 (by first|omega|(simp<;>omega)))|(refine below_via ?_ hb1 (by first|omega|(simp<;>omega)))|exact Below.refl _ _)
theorem add_tf_eq (m n:Nat) (w:World) (hm:m<two128) (hn:n<two128) (h:n≤m) (h0:(m-n==0)=true) :
  Calls Tryz.prog 154 #[wide true m,wide false n] w fun e w'=>e=.returned (wide false (m-n))∧Below w.heap.size w w':=by
 have ht:decide (m<n)=false:=by simp;omega
 have HM:=hid hm;have HN:=hid hn;have H:=hid h;clear hm hn h;unfold wide;go_enter Tryz.func154,Tryz.ntmps154
 go_wp2_with fail
 refine (size_any _ _ _ _ _).mono ?_;rintro e w1 ⟨rfl,hb1⟩;rw [ht];obtain ⟨hc1,hf1⟩:=bcell hb1;obtain ⟨k0,k1,k2⟩:w.heap.size<w1.heap.size∧w.heap.size+1<w1.heap.size∧w.heap.size+1+1<w1.heap.size:=by have:=hb1.size;simp at this;omega
 go_wp2_with fail
 refine (minus_any _ _ _ _ _ HM.out (by have:=H.out;omega)).mono ?_;rintro e w2 ⟨rfl,hb2⟩;unfold wide;obtain ⟨hc2,hf2⟩:=bcell hb2;have j0:w1.heap.size≤w2.heap.size:=hb2.size;obtain ⟨j1,j2,j3⟩:w.heap.size<w2.heap.size∧w.heap.size+1<w2.heap.size∧w.heap.size+1+1<w2.heap.size:=⟨by omega,by omega,by omega⟩;go_wp2_with fail
 refine (zero_any _ _ _).mono ?_;rintro e w3 ⟨rfl,hb3⟩;rw [h0];obtain ⟨hc3,hf3⟩:=bcell hb3;have i0:w2.heap.size<w3.heap.size:=by have:=hb3.size;simp at this;omega
 obtain ⟨i1,i2,i3⟩:w.heap.size<w3.heap.size∧w.heap.size+1<w3.heap.size∧w.heap.size+1+1<w3.heap.size:=⟨by omega,by omega,by omega⟩;go_wp2
 refine bodyPost_ret (v:=.agg #[.bool false,.int .u64 (hiN (m-n)),.int .u64 (loN (m-n))])
  (by simp only [results,Tryz.results154];go_simp) rfl ⟨rfl,?_⟩
 repeat (first|(refine Below.setCell ?_ (by first|omega|(simp<;>omega)) _)|(refine Below.alloc ?_ (by first|omega|(simp<;>omega)) _)|(refine below_via ?_ hb3 (by first|omega|(simp<;>omega)))|(refine below_via ?_ hb2 (by first|omega|(simp<;>omega)))|(refine below_via ?_ hb1 (by first|omega|(simp<;>omega)))|exact Below.refl _ _)
theorem add_any (u v:Int) (w:World) (hu:u.natAbs<two127) (hv:v.natAbs<two127) :
  Calls Tryz.prog 154 #[W u,W v] w fun e w'=>e=.returned (W (u+v))∧Below w.heap.size w w':=by
 have hu2:u.natAbs<two128:=by unfold two127 at hu;unfold two128;omega
 have hv2:v.natAbs<two128:=by unfold two127 at hv;unfold two128;omega
 have huv:u.natAbs+v.natAbs<two128:=by unfold two127 at hu hv;unfold two128;omega
 unfold W;by_cases hu0:u<0
 ·by_cases hv0:v<0
  ·have e1:(u+v).natAbs=u.natAbs+v.natAbs:=by omega
   rw [decide_eq_true hu0,decide_eq_true hv0,decide_eq_true (show u+v<0 by omega),e1];exact add_like true _ _ w huv (fun _=>by simp;omega)
  ·by_cases hc:u.natAbs<v.natAbs
   ·have e1:(u+v).natAbs=v.natAbs-u.natAbs:=by omega
    rw [decide_eq_true hu0,decide_eq_false hv0,decide_eq_false (show ¬ u+v<0 by omega),e1];exact add_tf_lt _ _ w hu2 hv2 hc
   ·have e1:(u+v).natAbs=u.natAbs-v.natAbs:=by omega
    by_cases hz:u.natAbs=v.natAbs
    ·rw [decide_eq_true hu0,decide_eq_false hv0,decide_eq_false (show ¬ u+v<0 by omega),e1];exact add_tf_eq _ _ w hu2 hv2 (by omega) (by simp;omega)
    ·rw [decide_eq_true hu0,decide_eq_false hv0,decide_eq_true (show u+v<0 by omega),e1];exact add_tf_gt _ _ w hu2 hv2 (by omega) (by simp;omega)
 ·by_cases hv0:v<0
  ·by_cases hc:u.natAbs<v.natAbs
   ·have e1:(u+v).natAbs=v.natAbs-u.natAbs:=by omega
    rw [decide_eq_false hu0,decide_eq_true hv0,decide_eq_true (show u+v<0 by omega),e1];exact add_ft_lt _ _ w hu2 hv2 hc (by simp;omega)
   ·have e1:(u+v).natAbs=u.natAbs-v.natAbs:=by omega
    rw [decide_eq_false hu0,decide_eq_true hv0,decide_eq_false (show ¬ u+v<0 by omega),e1];exact add_ft_ge _ _ w hu2 hv2 (by omega)
  ·have e1:(u+v).natAbs=u.natAbs+v.natAbs:=by omega
   rw [decide_eq_false hu0,decide_eq_false hv0,decide_eq_false (show ¬ u+v<0 by omega),e1];exact add_like false _ _ w huv (fun h=>by cases h)
theorem int_neg (l:Int) (w:World) (h1:1≤l) (h2:¬ 9223372036854775808<l) :
  Calls Tryz.prog 153 #[.agg #[.bool true,.int .u64 0,.int .u64 l]] w fun e w'=>e=.returned (.tuple #[.int .i64 (-l),.bool true])∧Below w.heap.size w w':=by
 have ht:decide (9223372036854775808<l)=false:=by simpa using h2
 have h0:(l==0)=false:=by simp;omega
 have E:Hid (wrap64 (wrap64 (-wrap64 (IntKind.u64.wrap (l-1)))-1) = -l):=by
  show _=_
  rw [u64_mod];unfold wrap64;omega
 clear h1 h2;go_enter Tryz.func153,Tryz.ntmps153
 go_wp2;go_ret2;exact ⟨Ex.ret_2 E.out rfl,(Below.refl _ _).alloc (Nat.le_refl _) _⟩
theorem int_pos (l:Int) (w:World) (h1:0≤l) (h2:¬ 9223372036854775808≤l) :
  Calls Tryz.prog 153 #[.agg #[.bool false,.int .u64 0,.int .u64 l]] w fun e w'=>e=.returned (.tuple #[.int .i64 l,.bool true])∧Below w.heap.size w w':=by
 have ht:decide (9223372036854775808≤l)=false:=by simpa using h2
 have E:Hid (wrap64 l=l):=by show _=_;unfold wrap64;omega
 clear h1 h2;go_enter Tryz.func153,Tryz.ntmps153
 go_wp2;go_ret2;exact ⟨Ex.ret_2 E.out rfl,(Below.refl _ _).alloc (Nat.le_refl _) _⟩
theorem int_past (s:Bool) (l:Int) (w:World) (h2:if s=true then 9223372036854775808<l else 9223372036854775808≤l) :
  Calls Tryz.prog 153 #[.agg #[.bool s,.int .u64 0,.int .u64 l]] w fun e w'=>e=.returned (.tuple #[.int .i64 0,.bool false])∧Below w.heap.size w w':=by
 cases s
 ·have ht:decide (9223372036854775808≤l)=true:=by simpa using h2
  clear h2;go_enter Tryz.func153,Tryz.ntmps153
  go_wp2;go_ret2;exact ⟨rfl,(Below.refl _ _).alloc (Nat.le_refl _) _⟩
 ·have ht:decide (9223372036854775808<l)=true:=by simpa using h2
  clear h2;go_enter Tryz.func153,Tryz.ntmps153
  go_wp2;go_ret2;exact ⟨rfl,(Below.refl _ _).alloc (Nat.le_refl _) _⟩
theorem int_high (s:Bool) (m:Nat) (w:World) (ht:(((hiN m:Nat):Int)==0)=false) :
  Calls Tryz.prog 153 #[wide s m] w fun e w'=>e=.returned (.tuple #[.int .i64 0,.bool false])∧Below w.heap.size w w':=by
 unfold wide;go_enter Tryz.func153,Tryz.ntmps153
 go_wp2;go_ret2;exact ⟨rfl,(Below.refl _ _).alloc (Nat.le_refl _) _⟩
theorem int_any (v:Int) (w:World) :
  Calls Tryz.prog 153 #[W v] w fun e w'=>e=.returned (.tuple #[.int .i64 (cut64 v),.bool (ok64 v)])∧Below w.heap.size w w':=by
 by_cases hh:hiN v.natAbs=0
 ·have hl:((loN v.natAbs:Nat):Int)=(v.natAbs:Int):=by unfold loN;unfold hiN at hh;omega
  have e:W v=.agg #[.bool (decide (v<0)),.int .u64 0,.int .u64 (v.natAbs:Int)]:=by
   unfold W wide;rw [hh,hl];rfl
  rw [e];by_cases hi:I64 v
  ·rw [cut64_t hi,ok64_t hi];unfold I64 at hi;by_cases h0:v<0
   ·rw [decide_eq_true h0];have:=int_neg (v.natAbs:Int) w (by omega) (by omega);rw [show -(v.natAbs:Int)=v by omega] at this;exact this
   ·rw [decide_eq_false h0];have:=int_pos (v.natAbs:Int) w (by omega) (by omega);rw [show (v.natAbs:Int)=v by omega] at this ⊢;exact this
  ·rw [cut64_f hi,ok64_f hi];unfold I64 at hi;refine int_past _ _ w ?_;by_cases h0:v<0
   ·rw [decide_eq_true h0,if_pos rfl];omega
   ·rw [decide_eq_false h0,if_neg (by simp)];omega
 ·have ht:(((hiN v.natAbs:Nat):Int)==0)=false:=by simp;omega
  have hn:¬ I64 v:=by unfold I64;unfold hiN at hh;omega
  rw [cut64_f hn,ok64_f hn];exact int_high _ _ w ht
theorem of_small (a:Int) (w:World) (ha:I64 a) :
  Calls Tryz.prog 155 #[.int .i64 a] w fun e w'=>e=.returned (.agg #[.bool (decide (a<0)),.int .u64 0,.int .u64 (a.natAbs:Int)])∧Below w.heap.size w w':=by
 have h:=of_any a w ha;have hh:hiN a.natAbs=0:=hiN_small (by unfold I64 at ha;omega);have hl:loN a.natAbs=a.natAbs:=loN_small (by unfold I64 at ha;omega);unfold W wide at h;rw [hh,hl] at h;exact h
theorem plus_eq {s t:Bool} {m n:Nat} {h1 l1 h2 l2:Int} (w:World) (e1:h1=hiN m) (e2:l1=loN m) (e3:h2=hiN n) (e4:l2=loN n) (hs:m+n<two128) :
  Calls Tryz.prog 196 #[.agg #[.bool s,.int .u64 h1,.int .u64 l1],.agg #[.bool t,.int .u64 h2,.int .u64 l2]] w
   fun e w'=>e=.returned (.agg #[.bool false,.int .u64 (hiN (m+n)),.int .u64 (loN (m+n))])∧Below w.heap.size w w':=by
 subst e1 e2 e3 e4;exact plus_any s t m n w hs
theorem mul_sign {a b:Int} : (decide (a*b<0))=(!(decide (a<0)==decide (b<0))&&!((a.natAbs*b.natAbs)==0)):=by
 rw [←Int.natAbs_mul];by_cases ha:a<0
 ·by_cases hb:b<0
  ·have:0<a*b:=Int.mul_pos_of_neg_of_neg ha hb;simp [ha,hb];omega
  ·by_cases h0:b=0
   ·subst h0;simp
   ·have:a*b<0:=Int.mul_neg_of_neg_of_pos ha (by omega);simp [ha,hb,this];omega
 ·by_cases hb:b<0
  ·by_cases h0:a=0
   ·subst h0;simp
   ·have:a*b<0:=Int.mul_neg_of_pos_of_neg (by omega) hb;simp [ha,hb,this];omega
  ·have:0≤a*b:=Int.mul_nonneg (by omega) (by omega);simp [ha,hb];omega
theorem mul_walk (a b:Int) (w:World) (ha:I64 a) (hb:I64 b) (t z:Bool) (ht:(decide (a<0)==decide (b<0)) = !t) (hz:t=true→(M0 a.natAbs b.natAbs+M1 a.natAbs b.natAbs+M2 a.natAbs b.natAbs==0)=z) :
  Calls Tryz.prog 157 #[.int .i64 a,.int .i64 b] w fun e w'=>e=.returned (wide (t&&!z) (M0 a.natAbs b.natAbs+M1 a.natAbs b.natAbs+M2 a.natAbs b.natAbs))∧Below w.heap.size w w':=by
 have hx:a.natAbs≤9223372036854775808:=by unfold I64 at ha;omega
 have hy:b.natAbs≤9223372036854775808:=by unfold I64 at hb;omega
 have E1:=hid (m0_hi hx hy);have E2:=hid (@m0_lo a.natAbs b.natAbs);have E3:=hid (@m1_hi a.natAbs b.natAbs hy);have E4:=hid (@m1_lo a.natAbs b.natAbs);have E5:=hid (@m2_hi a.natAbs b.natAbs hx);have E6:=hid (@m2_lo a.natAbs b.natAbs);have S2:Hid (M0 a.natAbs b.natAbs+M1 a.natAbs b.natAbs+M2 a.natAbs b.natAbs<two128):=by show _<_;rw [mul_parts];exact prod_lt hx hy
 have S1:Hid (M0 a.natAbs b.natAbs+M1 a.natAbs b.natAbs<two128):=by have:=S2.out;show _<_;omega
 have HA:=hid ha;have HB:=hid hb;have HT:=hid ht;have HZ:=hid hz;clear ha hb hx hy ht hz;go_enter Tryz.func157,Tryz.ntmps157
 go_wp2_with fail
 refine (of_small _ _ HA.out).mono ?_;rintro e w1 ⟨rfl,hb1⟩;obtain ⟨hc1,hf1⟩:=bcell hb1;have k0:w.heap.size<w1.heap.size:=by have:=hb1.size;simp at this;omega
 go_wp2_with fail
 refine (of_small _ _ HB.out).mono ?_;rintro e w2 ⟨rfl,hb2⟩;obtain ⟨hc2,hf2⟩:=bcell hb2;have j0:w1.heap.size≤w2.heap.size:=hb2.size;have j1:w.heap.size<w2.heap.size:=by omega
 generalize hx:a.natAbs=x at *;generalize hy:b.natAbs=y at *;have HX:=hid hx.symm;have HY:=hid hy.symm;clear hx hy;generalize decide (a<0)=sa at *;generalize decide (b<0)=sb at *;have hbel:Below w.heap.size w w2:=below_via (below_via ((Below.refl _ _).alloc (Nat.le_refl _) _) hb1 (by simp)) hb2 (by omega)
 have hc:w2.cell? ⟨w.heap.size,0,none⟩=some (.bool false)∧w2.cell? ⟨w.heap.size,1,none⟩=some (.int .u64 0)∧w2.cell? ⟨w.heap.size,2,none⟩=some (.int .u64 0):=by
  refine ⟨?_,?_,?_⟩<;>(rw [hc2 _ _ (by omega),hc1 _ _ (by simp)];simp)
 obtain ⟨c0,c1,c2⟩:=hc
 have hf:∀o,w2.frozen? ⟨w.heap.size,o,none⟩=false:=by
  intro o;rw [hf2 _ _ (by omega),hf1 _ _ (by simp)];simp
 have BEL:=hid hbel;clear hc1 hf1 hc2 hf2 hb1 hb2 j0 k0 hbel;go_wp2
 go_quiet (fail)
 go_wp2
 go_quiet (fail)
 go_wp2;refine wp_loop_rounds 3 ?_;rw [rounds_succ];go_wp2_with fail
 refine (plus_eq _ E1.out E2.out E3.out E4.out S1.out).mono ?_;rintro e w3 ⟨rfl,hb3⟩;have q0:w.heap.size<w2.heap.size+1:=by omega
 have q1:w.heap.size<w2.heap.size+1+1:=by omega
 have q2:w.heap.size<w2.heap.size+1+1+1:=by omega
 obtain ⟨hc3,hf3⟩:=bcell hb3
 obtain ⟨p30,p31,p32,p33,p34⟩:w.heap.size<w3.heap.size∧w2.heap.size<w3.heap.size∧w2.heap.size+1<w3.heap.size∧w2.heap.size+1+1<w3.heap.size∧w2.heap.size+1+1+1<w3.heap.size:=by
  have:=hb3.size;simp at this;omega
 have ra3:w3.cell? ⟨w.heap.size,0,none⟩=some (.bool false):=by rw [hc3 _ _ (by first|omega|(simp<;>omega))];go_simp
 have rb3:w3.cell? ⟨w.heap.size,1,none⟩=some (.int .u64 0):=by rw [hc3 _ _ (by first|omega|(simp<;>omega))];go_simp
 have rc3:w3.cell? ⟨w.heap.size,2,none⟩=some (.int .u64 0):=by rw [hc3 _ _ (by first|omega|(simp<;>omega))];go_simp
 have xa3:w3.cell? ⟨w2.heap.size,0,none⟩=some (.bool sa):=by rw [hc3 _ _ (by first|omega|(simp<;>omega))];go_simp
 have ya3:w3.cell? ⟨w2.heap.size+1,0,none⟩=some (.bool sb):=by rw [hc3 _ _ (by first|omega|(simp<;>omega))];go_simp
 have oa3:w3.cell? ⟨w2.heap.size+1+1,0,none⟩=some (.bool false):=by rw [hc3 _ _ (by first|omega|(simp<;>omega))];go_simp
 have ob3:w3.cell? ⟨w2.heap.size+1+1,1,none⟩=some (.int .u64 (IntKind.u64.wrap ((x:Int) / 4294967296*((y:Int) / 4294967296)))):=by rw [hc3 _ _ (by first|omega|(simp<;>omega))];go_simp
 have oc3:w3.cell? ⟨w2.heap.size+1+1,2,none⟩=some (.int .u64 (IntKind.u64.wrap ((x:Int) % 4294967296*((y:Int) % 4294967296)))):=by rw [hc3 _ _ (by first|omega|(simp<;>omega))];go_simp
 have ta3:w3.cell? ⟨w2.heap.size+1+1+1,0,none⟩=some (.int .u64 (IntKind.u64.wrap ((x:Int) % 4294967296*((y:Int) / 4294967296)))):=by rw [hc3 _ _ (by first|omega|(simp<;>omega))];go_simp
 have tb3:w3.cell? ⟨w2.heap.size+1+1+1,1,none⟩=some (.int .u64 (IntKind.u64.wrap ((x:Int) / 4294967296*((y:Int) % 4294967296)))):=by rw [hc3 _ _ (by first|omega|(simp<;>omega))];go_simp
 have fr3:∀o,w3.frozen? ⟨w.heap.size,o,none⟩=false:=by intro o;rw [hf3 _ _ (by first|omega|(simp<;>omega))];go_simp
 have fo3:∀o,w3.frozen? ⟨w2.heap.size+1+1,o,none⟩=false:=by intro o;rw [hf3 _ _ (by first|omega|(simp<;>omega))];go_simp
 have B3:Hid (Below w.heap.size w w3):=by
  refine below_via ?_ hb3 (by first|omega|(simp<;>omega));repeat (first|(refine Below.setCell ?_ (by first|omega|(simp<;>omega)) _)|(refine Below.alloc ?_ (by first|omega|(simp<;>omega)) _)|(refine below_drewN ?_ _)|exact BEL.out)
 clear hc3 hf3 hb3 BEL c0 c1 c2 hf;go_wp2;rw [rounds_succ];go_wp2_with fail
 refine (plus_eq _ rfl rfl E5.out E6.out S2.out).mono ?_;rintro e w4 ⟨rfl,hb4⟩;obtain ⟨hc4,hf4⟩:=bcell hb4
 obtain ⟨p40,p41,p42,p43,p44⟩:w.heap.size<w4.heap.size∧w2.heap.size<w4.heap.size∧w2.heap.size+1<w4.heap.size∧w2.heap.size+1+1<w4.heap.size∧w2.heap.size+1+1+1<w4.heap.size:=by
  have:=hb4.size;simp at this;omega
 have ra4:w4.cell? ⟨w.heap.size,0,none⟩=some (.bool false):=by rw [hc4 _ _ (by first|omega|(simp<;>omega))];go_simp
 have rb4:w4.cell? ⟨w.heap.size,1,none⟩=some (.int .u64 0):=by rw [hc4 _ _ (by first|omega|(simp<;>omega))];go_simp
 have rc4:w4.cell? ⟨w.heap.size,2,none⟩=some (.int .u64 0):=by rw [hc4 _ _ (by first|omega|(simp<;>omega))];go_simp
 have xa4:w4.cell? ⟨w2.heap.size,0,none⟩=some (.bool sa):=by rw [hc4 _ _ (by first|omega|(simp<;>omega))];go_simp
 have ya4:w4.cell? ⟨w2.heap.size+1,0,none⟩=some (.bool sb):=by rw [hc4 _ _ (by first|omega|(simp<;>omega))];go_simp
 have oa4:w4.cell? ⟨w2.heap.size+1+1,0,none⟩=some (.bool false):=by rw [hc4 _ _ (by first|omega|(simp<;>omega))];go_simp
 have ob4:w4.cell? ⟨w2.heap.size+1+1,1,none⟩=some (.int .u64 (hiN (M0 x y+M1 x y))):=by rw [hc4 _ _ (by first|omega|(simp<;>omega))];go_simp
 have oc4:w4.cell? ⟨w2.heap.size+1+1,2,none⟩=some (.int .u64 (loN (M0 x y+M1 x y))):=by rw [hc4 _ _ (by first|omega|(simp<;>omega))];go_simp
 have fr4:∀o,w4.frozen? ⟨w.heap.size,o,none⟩=false:=by intro o;rw [hf4 _ _ (by first|omega|(simp<;>omega))];go_simp
 have fo4:∀o,w4.frozen? ⟨w2.heap.size+1+1,o,none⟩=false:=by intro o;rw [hf4 _ _ (by first|omega|(simp<;>omega))];go_simp
 have B4:Hid (Below w.heap.size w w4):=by
  refine below_via ?_ hb4 (by first|omega|(simp<;>omega));repeat (first|(refine Below.setCell ?_ (by first|omega|(simp<;>omega)) _)|(refine Below.alloc ?_ (by first|omega|(simp<;>omega)) _)|(refine below_drewN ?_ _)|exact B3.out)
 clear hc4 hf4 hb4 B3 ra3 rb3 rc3 xa3 ya3 oa3 ob3 oc3 fr3 fo3 ta3 tb3 p30 p31 p32 p33 p34;go_wp2;rw [rounds_succ];cases t
 ·have HS:(sa==sb)=true:=HT.out;go_wp2
  refine bodyPost_ret (v:=.agg #[.bool false,.int .u64 (hiN (M0 x y+M1 x y+M2 x y)),.int .u64 (loN (M0 x y+M1 x y+M2 x y))])
   (by simp only [results,Tryz.results157];go_simp) rfl ⟨by simp only [wide,Bool.false_and];rw [HX.out,HY.out],?_⟩
  repeat (first|(refine Below.setCell ?_ (by first|omega|(simp<;>omega)) _)|(refine Below.alloc ?_ (by first|omega|(simp<;>omega)) _)|(refine below_drewN ?_ _)|exact B4.out)
 ·have HS:(sa==sb)=false:=HT.out;have hz:=HZ.out rfl;have HZ1:=hid hz;clear hz;go_wp2_with fail
  refine (zero_any _ _ _).mono ?_;rintro e w5 ⟨rfl,hb5⟩;rw [HZ1.out];obtain ⟨hc5,hf5⟩:=bcell hb5
  obtain ⟨p50,p51,p52,p53,p54⟩:w.heap.size<w5.heap.size∧w2.heap.size<w5.heap.size∧w2.heap.size+1<w5.heap.size∧w2.heap.size+1+1<w5.heap.size∧w2.heap.size+1+1+1<w5.heap.size:=by
   have:=hb5.size;simp at this;omega
  have ra5:w5.cell? ⟨w.heap.size,0,none⟩=some (.bool false):=by rw [hc5 _ _ (by first|omega|(simp<;>omega))];go_simp
  have rb5:w5.cell? ⟨w.heap.size,1,none⟩=some (.int .u64 0):=by rw [hc5 _ _ (by first|omega|(simp<;>omega))];go_simp
  have rc5:w5.cell? ⟨w.heap.size,2,none⟩=some (.int .u64 0):=by rw [hc5 _ _ (by first|omega|(simp<;>omega))];go_simp
  have oa5:w5.cell? ⟨w2.heap.size+1+1,0,none⟩=some (.bool false):=by rw [hc5 _ _ (by first|omega|(simp<;>omega))];go_simp
  have ob5:w5.cell? ⟨w2.heap.size+1+1,1,none⟩=some (.int .u64 (hiN (M0 x y+M1 x y+M2 x y))):=by rw [hc5 _ _ (by first|omega|(simp<;>omega))];go_simp
  have oc5:w5.cell? ⟨w2.heap.size+1+1,2,none⟩=some (.int .u64 (loN (M0 x y+M1 x y+M2 x y))):=by rw [hc5 _ _ (by first|omega|(simp<;>omega))];go_simp
  have fr5:∀o,w5.frozen? ⟨w.heap.size,o,none⟩=false:=by intro o;rw [hf5 _ _ (by first|omega|(simp<;>omega))];go_simp
  have fo5:∀o,w5.frozen? ⟨w2.heap.size+1+1,o,none⟩=false:=by intro o;rw [hf5 _ _ (by first|omega|(simp<;>omega))];go_simp
  have B5:Hid (Below w.heap.size w w5):=by
   refine below_via ?_ hb5 (by first|omega|(simp<;>omega));repeat (first|(refine Below.setCell ?_ (by first|omega|(simp<;>omega)) _)|exact B4.out)
  clear hc5 hf5 hb5 B4 ra4 rb4 rc4 xa4 ya4 oa4 ob4 oc4 fr4 fo4;go_wp2
  refine bodyPost_ret (v:=.agg #[.bool (!z),.int .u64 (hiN (M0 x y+M1 x y+M2 x y)),.int .u64 (loN (M0 x y+M1 x y+M2 x y))])
   (by simp only [results,Tryz.results157];go_simp) rfl ⟨by simp only [wide,Bool.true_and];rw [HX.out,HY.out],?_⟩
  repeat (first|(refine Below.setCell ?_ (by first|omega|(simp<;>omega)) _)|exact B5.out)
theorem mul_any (a b:Int) (w:World) (ha:I64 a) (hb:I64 b) :
  Calls Tryz.prog 157 #[.int .i64 a,.int .i64 b] w fun e w'=>e=.returned (W (a*b))∧Below w.heap.size w w':=by
 have h:=mul_walk a b w ha hb (!(decide (a<0)==decide (b<0))) (M0 a.natAbs b.natAbs+M1 a.natAbs b.natAbs+M2 a.natAbs b.natAbs==0) (by simp) (fun _=>rfl);rw [mul_parts] at h;unfold W;rw [mul_sign,Int.natAbs_mul];exact h
end R1
namespace R4
open Go.RowKit P Ex
theorem more_any (n d:Int) (ok:Bool) (w:World) (hn:I64 n) (hd:I64 d) :
  Calls Tryz.prog 114 #[.int .i64 n,.int .i64 d,.bool ok] w fun e w'=>e=.returned (.tuple #[.int .i64 (if ok&&ok64 (n*10+d) then n*10+d else 0),.bool (ok&&ok64 (n*10+d))])∧Below w.heap.size w w':=by
 have cM:=fun W=>R1.mul_any n 10 W hn (by unfold I64;omega);have cO:=fun W=>R1.of_any d W hd;have h1:(n*10).natAbs<two127:=by unfold I64 at hn;unfold two127;omega
 have h2:d.natAbs<two127:=by unfold I64 at hd;unfold two127;omega
 have cA:=fun W=>R1.add_any (n*10) d W h1 h2;have cI:=fun W=>R1.int_any (n*10+d) W;obtain ⟨V,hV⟩:∃V,V=n*10+d:=⟨_,rfl⟩;rw [←hV];simp only [←hV] at cA cI;obtain ⟨A,hA⟩:∃A,A=R1.W (n*10):=⟨_,rfl⟩;obtain ⟨D,hD⟩:∃D,D=R1.W d:=⟨_,rfl⟩;obtain ⟨S,hS⟩:∃S,S=R1.W V:=⟨_,rfl⟩;simp only [←hA] at cM cA;simp only [←hD] at cO cA;simp only [←hS] at cA cI;obtain ⟨K,hK⟩:∃K,K=ok64 V:=⟨_,rfl⟩;have hc:cut64 V=if K=true then V else 0:=by unfold cut64;rw [hK]
 rw [←hK];simp only [←hK,hc] at cI;clear hn hd h1 h2 hV hA hD hS hK hc;cases ok<;>cases K
 all_goals
  go_enter Tryz.func114,Tryz.ntmps114
  go_wp2_with (first
   | (go_at_call 157;refine (cM _).mono ?_;rintro e w1 ⟨rfl,b1⟩)
   | (go_at_call 155;refine (cO _).mono ?_;rintro e w2 ⟨rfl,b2⟩;have B2:=b1.trans (b2.mono b1.size))
   | (go_at_call 154;refine (cA _).mono ?_;rintro e w3 ⟨rfl,b3⟩;have B3:=B2.trans (b3.mono B2.size))
   | (go_at_call 153;refine (cI _).mono ?_;rintro e w4 ⟨rfl,b4⟩;have B4:=B3.trans (b4.mono B3.size)))
  go_ret2;exact ⟨Ex.ret_2 rfl rfl,B4⟩
theorem below_on {w W w':World} (h:Below w.heap.size w W) (hb:Below W.heap.size W w'):Below w.heap.size w w':=h.trans (hb.mono h.size)
theorem more_acc (v d:Int) (w:World) (hv:0≤v) (hd:0≤d) (hd1:d≤9) :
  Calls Tryz.prog 114 #[.int .i64 (cut64 v),.int .i64 d,.bool (ok64 v)] w fun e w'=>e=.returned (.tuple #[.int .i64 (cut64 (v*10+d)),.bool (ok64 (v*10+d))])∧Below w.heap.size w w':=by
 have h:=more_any (cut64 v) d (ok64 v) w (i64_cut v) (by unfold I64;omega);obtain ⟨e1,e2⟩:=acc_step hv hd;rw [e2,e1] at h;exact h
theorem parse_any (s:ByteArray) (places most:Int) (w:World) (hs:s.size≤4611686018427387904) :
  Calls Tryz.prog 65 #[.string s,.int .i64 places,.int .i64 most] w fun e w'=>e=.returned (.tuple #[.int .i64 (pN s.data.toList places most),.int .i64 (pW s.data.toList places most)])∧Below w.heap.size w w':=by
 have cO:=fun W=>of_any s W (by omega);obtain ⟨l,hl⟩:∃l,l=s.data.toList:=⟨_,rfl⟩;have hbyte:=byte_at s;have hz:l.length=s.size:=by rw [hl];simp
 rw [←hl];rw [←hl] at hbyte;simp only [←hl] at cO;clear hl;obtain ⟨F,hF⟩:∃F:Int,F=(fm l:Int):=⟨_,rfl⟩;simp only [←hF] at cO;by_cases h:F=0∨places<0∨9<places
 ·have hb:pBad l places=true:=by unfold pBad;rw [decide_eq_true_eq];omega
  have e1:=hid (show pN l places most=0 by unfold pN;rw [hb];rfl);have e2:=hid (show pW l places most=1 by unfold pW;rw [hb];rfl);clear hb hF hz hbyte;have h':F=0∨(F≠0∧places<0)∨(F≠0∧¬ places<0∧9<places):=by omega
  clear h;go_enter Tryz.func65,Tryz.ntmps65
  rcases h' with h|⟨h0,h⟩|⟨h0,h,h1⟩
  ·have b0:(F==0)=true:=by simpa using h
   go_wp2_with (go_at_call 112;refine (cO _).mono ?_;rintro e w' ⟨rfl,h'⟩;rw [h'])
   go_ret2;exact ⟨ret_2 (vi e1.out.symm) (vi e2.out.symm),Below.refl _ _⟩
  ·have b0:(F==0)=false:=by simpa using h0
   go_wp2_with (go_at_call 112;refine (cO _).mono ?_;rintro e w' ⟨rfl,h'⟩;rw [h'])
   go_ret2;exact ⟨ret_2 (vi e1.out.symm) (vi e2.out.symm),Below.refl _ _⟩
  ·have b0:(F==0)=false:=by simpa using h0
   go_wp2_with (go_at_call 112;refine (cO _).mono ?_;rintro e w' ⟨rfl,h'⟩;rw [h'])
   go_ret2;exact ⟨ret_2 (vi e1.out.symm) (vi e2.out.symm),Below.refl _ _⟩
 ·have b0:(F==0)=false:=by simp;omega
  have hfm:fm l≠0:=by omega
  have hall:=fm_all hfm;have h0:0≤places:=by omega
  have h9:places≤9:=by omega
  have hBad:pBad l places=decide (places<stB l):=by unfold pBad;rw [decide_eq_decide];omega
  clear h hF;go_enter Tryz.func65,Tryz.ntmps65
  go_wp2_with (go_at_call 112;refine (cO _).mono ?_;rintro e w' ⟨rfl,h'⟩;rw [h'])
  clear cO
  go_loopw [8,9,10,11] (fun b n ok i wr=>∃(b' v' i':Int),b=.int .i64 b'∧n=.int .i64 (cut64 v')∧ok=.bool (ok64 v')∧i=.int .i64 i'∧0≤i'∧i'≤s.size∧-1≤b'∧b'≤i'∧0≤v'∧
   Hid (b'=stB (l.take i'.toNat)∧v'=(stV (l.take i'.toNat):Int))∧Below w.heap.size w wr) (fun _ _ _ i _=>((s.size:Int)-intOf i).toNat)
  case atStart=>exact ⟨-1,0,0,rfl,rfl,rfl,rfl,by omega,by omega,by omega,by omega,by omega,hid ⟨rfl,rfl⟩,Below.refl _ _⟩
  case round=>
   obtain ⟨b',v',i',rfl,rfl,rfl,rfl,i0,i1,bl,bu,v0,hst,hbw⟩:=hrel;by_cases hi:i'<s.size
   ·have hil:i'.toNat<l.length:=by omega
    have hb:=hbyte i' i0 hi;have e1:(i'+1).toNat=i'.toNat+1:=by omega
    have hdp:=dp_or hall hil;have hts:=take_snoc hil;obtain ⟨hB,hV⟩:=hst.out;have sB:=stB_snoc (l.take i'.toNat) (l.getD i'.toNat 0);have sV:=stV_snoc (l.take i'.toNat) (l.getD i'.toNat 0);rw [←hts] at sB sV;obtain ⟨c,hc⟩:∃c,c=l.getD i'.toNat 0:=⟨_,rfl⟩;rw [←hc] at sB sV hdp;simp only [←hc] at hb;obtain ⟨z,hz'⟩:∃z:Int,z=(c.toNat:Int):=⟨_,rfl⟩;simp only [←hz'] at hb;clear hc hts hbyte hst;rcases hdp with hp46|hdg
    ·have b1:(z==46)=true:=by rw [hz',hp46];rfl
     rw [if_pos hp46] at sB sV;have H:Hid ((0:Int)=stB (l.take (i'+1).toNat)∧v'=(stV (l.take (i'+1).toNat):Int)):=hid (by rw [e1,sB,sV];exact ⟨rfl,hV⟩);clear sB sV hz' hp46 hB hV e1;go_wp2;go_roundw
     case rel=>exact ⟨0,v',i'+1,rfl,rfl,rfl,rfl,by omega,by omega,by omega,by omega,v0,H,hbw⟩
     case measure=>simp [intOf];omega
    ·have hne:=isDg_no46 hdg;rw [isDg_iff] at hdg;have b1:(z==46)=false:=by simp;omega
     rw [if_neg hne] at sB sV;have z0:48≤z:=by omega
     have z1:z≤57:=by omega
     have cM:=fun W=>more_acc v' (z-48) W v0 (by omega) (by omega);by_cases hb0:0≤b'
     ·rw [if_pos (by omega)] at sB;have H:Hid (b'+1=stB (l.take (i'+1).toNat)∧v'*10+(z-48)=(stV (l.take (i'+1).toNat):Int)):=hid (by rw [e1,sB,sV];omega);clear sB sV hz' hne hB hV e1 hdg;go_wp2_with (go_at_call 114;refine (cM _).mono ?_;rintro e w2 ⟨rfl,b2⟩;have B2:=below_on hbw b2)
      go_roundw
      case rel=>exact ⟨b'+1,_,i'+1,rfl,rfl,rfl,rfl,by omega,by omega,by omega,by omega,by omega,H,B2⟩
      case measure=>simp [intOf];omega
     ·rw [if_neg (by omega)] at sB;have H:Hid (b'=stB (l.take (i'+1).toNat)∧v'*10+(z-48)=(stV (l.take (i'+1).toNat):Int)):=hid (by rw [e1,sB,sV];omega);clear sB sV hz' hne hB hV e1 hdg;go_wp2_with (go_at_call 114;refine (cM _).mono ?_;rintro e w2 ⟨rfl,b2⟩;have B2:=below_on hbw b2)
      go_roundw
      case rel=>exact ⟨b',_,i'+1,rfl,rfl,rfl,rfl,by omega,by omega,by omega,by omega,by omega,H,B2⟩
      case measure=>simp [intOf];omega
   ·obtain rfl:i'=s.size:=by omega
    obtain ⟨hB,hV⟩:=hst.out;rw [show ((s.size:Int)).toNat=l.length by omega,List.take_length] at hB hV;rw [←hB] at hBad;by_cases hgt:places<b'
    ·have e1:=hid (show pN l places most=0 by unfold pN;rw [hBad,decide_eq_true hgt];rfl);have e2:=hid (show pW l places most=1 by unfold pW;rw [hBad,decide_eq_true hgt];rfl);clear hBad hB hV hst hbyte;go_wp2;go_ret2;exact ⟨ret_2 (vi e1.out.symm) (vi e2.out.symm),hbw⟩
    ·rw [decide_eq_false hgt] at hBad;have hk:pK l places=(places-max b' 0).toNat:=by unfold pK;rw [←hB]
     have hpv:pV l places=v'*10 ^ (places-max b' 0).toNat:=by unfold pV;rw [hk,←hV]
     obtain ⟨k0,hk0⟩:∃k0,k0=max b' 0:=⟨_,rfl⟩;have k00:0≤k0:=by omega
     have k01:k0≤places:=by omega
     rw [←hk0] at hpv;have hmx:(if b'<0 then 0 else b')=k0:=by rw [hk0];split<;>omega
     have HP:=hid hpv;have HB:=hid hBad;clear hBad hB hst hbyte hk hpv hV;go_wp2;go_loopw [9,10,12] (fun n ok k wx=>∃u k':Int,n=.int .i64 (cut64 u)∧ok=.bool (ok64 u)∧k=.int .i64 k'∧k0≤k'∧k'≤places∧0≤u∧Hid (u=v'*10 ^ (k'-k0).toNat)∧Below w.heap.size w wx) (fun _ _ k _=>(places-intOf k).toNat)
     case atStart=>exact ⟨v',k0,rfl,rfl,vi hk0.symm,by omega,k01,v0,hid (by simp),hbw⟩
     case round=>
      obtain ⟨u,k',rfl,rfl,rfl,q0,q1,u0,hu,hb2⟩:=hrel;by_cases hlt:k'<places
      ·have cM:=fun W=>more_acc u 0 W u0 (by omega) (by omega)
       have H:Hid (u*10=v'*10 ^ (k'+1-k0).toNat):=hid (by
        rw [show (k'+1-k0).toNat=(k'-k0).toNat+1 by omega,Int.pow_succ,←Int.mul_assoc,←hu.out])
       clear hu hmx hk0;go_wp2_with (go_at_call 114;refine (cM _).mono ?_;rintro e w2 ⟨rfl,b2⟩;have B2:=below_on hb2 b2)
       go_roundw
       case rel=>exact ⟨_,k'+1,rfl,rfl,rfl,by omega,by omega,by omega,H,B2⟩
       case measure=>simp [intOf];omega
      ·obtain rfl:k'=places:=by omega
       have hpu:pV l k'=u:=by rw [HP.out,hu.out]
       have hb:=HB.out;clear hmx hk0;cases hk:ok64 u
       ·have e1:=hid (show pN l k' most=0 by unfold pN pGreat;rw [hb,hpu,hk];rfl);have e2:=hid (show pW l k' most=2 by unfold pW pGreat;rw [hb,hpu,hk];rfl);clear hpu hb hu;go_wp2;go_ret2;exact ⟨ret_2 (vi e1.out.symm) (vi e2.out.symm),hb2⟩
       ·have hI:=(ok64_iff u).1 hk;have hcu:cut64 u=u:=cut64_t hI;rw [hcu];by_cases hm:most<u
        ·have e1:=hid (show pN l k' most=0 by unfold pN pGreat;rw [hb,hpu,hk,decide_eq_true hm];rfl);have e2:=hid (show pW l k' most=2 by unfold pW pGreat;rw [hb,hpu,hk,decide_eq_true hm];rfl);clear hpu hb hu;go_wp2;go_ret2;exact ⟨ret_2 (vi e1.out.symm) (vi e2.out.symm),hb2⟩
        ·have e1:=hid (show pN l k' most=u by unfold pN pGreat;rw [hb,hpu,hk,decide_eq_false hm];rfl);have e2:=hid (show pW l k' most=0 by unfold pW pGreat;rw [hb,hpu,hk,decide_eq_false hm];rfl);clear hpu hb hu;go_wp2;go_ret2;exact ⟨ret_2 (vi e1.out.symm) (vi e2.out.symm),hb2⟩
end R4
end Go.Proofs.YtofbobdhkbmbgaaGreatDoor
