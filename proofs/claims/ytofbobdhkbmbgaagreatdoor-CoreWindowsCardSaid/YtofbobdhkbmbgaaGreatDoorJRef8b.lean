/- What the document's answers for layer 3 (poundageref03) come to: digits, Text. -/
import Derived.Test.YtofbobdhkbmbgaaGreatDoorJKz
set_option maxRecDepth 100000
set_option maxHeartbeats 8000000
namespace Go.Proofs.YtofbobdhkbmbgaaGreatDoor
namespace R3
open Go.RowKit Go.Sort P
theorem pad_front:∀(i n:Nat),pad (i+1) n=dch (n / 10 ^ i % 10)::pad i n
 | 0,n=>by simp [pad]
 | i+1,n=>by
   show pad (i+1) (n / 10)++[dch (n % 10)]=_
   rw [pad_front i (n / 10),Nat.div_div_eq_div_mul,Nat.pow_succ,Nat.mul_comm 10];rfl
theorem digits_any (n k:Int) (w:World) (h0:0≤n) (h1:n≤9999) (k0:0≤k) (k1:k≤4) :
  Calls Tryz.prog 96 #[.int .i64 n,.int .i64 k] w fun e w'=>e=.returned (.string ⟨(pad k.toNat n.toNat).toArray⟩)∧Below w.heap.size w w':=by
 go_enter Tryz.func96,Tryz.ntmps96
 go_wp2;go_loopw [0,5,6] (fun q s i wr=>∃(q' i':Int) (S:ByteArray),q=.int .i64 q'∧s=.string S∧i=.int .i64 i'∧0≤i'∧i'≤k∧0≤q'∧q'≤9999∧q'.toNat=n.toNat / 10 ^ i'.toNat∧Hid (S=⟨(pad i'.toNat n.toNat).toArray⟩)∧(S.size:Int)=i'∧Below w.heap.size w wr) (fun _ _ i _=>(k-intOf i).toNat)
 case atStart=>exact ⟨n,0,⟨#[]⟩,rfl,rfl,rfl,by omega,k0,h0,h1,by simp,rfl,rfl,Below.refl _ _⟩
 case round=>
  obtain ⟨q',i',S,rfl,rfl,rfl,i0,i1,q0,q1,hq,hS,hz,hb⟩:=hrel;by_cases hlt:i'<k
  ·have hn1:¬ 9223372036854775807<1+S.size:=by omega
   have hc:q'.toNat % 10<10:=Nat.mod_lt _ (by decide);have hx:((dch (q'.toNat % 10)).toNat:Int)=48+q' % 10:=by rw [dig_toNat hc];omega
   have hcv:=run_convert_bytes_back (P:=Tryz.prog) (wr.alloc (.cells #[.int .u8 (48+q' % 10)] 5)) 176 9 5 ⟨wr.heap.size,0,none⟩ 1 [dch (q'.toNat % 10)] Tryz.underlying176 Tryz.underlying5 Tryz.underlying9 (fun j hj=>by
    obtain rfl:j=0:=by simpa using hj
    rw [Lib.add_plain,World.cell?_alloc_new];show some (Value.int .u8 (48+q' % 10))=some (Value.int .u8 (((dch (q'.toNat % 10)).toNat:Nat):Int))
    rw [hx])
   obtain ⟨B,hB⟩:∃B:ByteArray,B=⟨#[dch (q'.toNat % 10)]⟩:=⟨_,rfl⟩;rw [←hB,show [dch (q'.toNat % 10)].length=1 from rfl] at hcv;have hBz:B.size=1:=by rw [hB,ba_size];rfl
   have hn2:¬ 9223372036854775807<B.size+S.size:=by omega
   have HB:=hid hB
   have fin:Hid (B++S=⟨(pad (i'+1).toNat n.toNat).toArray⟩):=hid (by
    rw [hB,hS.out,ba_append,show (i'+1).toNat=i'.toNat+1 by omega,pad_front,←hq]
    rfl)
   have hsz:((B++S).size:Int)=i'+1:=by rw [ByteArray.size_append];omega
   have hq2:(q' / 10).toNat=n.toNat / 10 ^ (i'+1).toNat:=by
    rw [show (i'+1).toNat=i'.toNat+1 by omega,Nat.pow_succ,←Nat.div_div_eq_div_mul,←hq];omega
   have HQ:=hid hq2;clear hB hx hq hc hq2;go_wp2;go_roundw
   case rel=>exact ⟨_,i'+1,_,rfl,rfl,rfl,by omega,by omega,by omega,by omega,HQ.out,fin,hsz,hb.alloc hb.size _⟩
   case measure=>simp [intOf];omega
  ·obtain rfl:i'=k:=by omega
   go_wp2;go_ret;exact ⟨ret_s hS.out,hb⟩
theorem text_no (y m d:Int) (w:World) (g:good y m d=false) :
  Calls Tryz.prog 49 #[dv y m d] w fun e w'=>e=.returned (.string ⟨#[]⟩)∧Below w.heap.size w w':=by
 unfold dv;have cG:=good_any y m d (w.alloc (.cells #[.int .i64 y,.int .i64 m,.int .i64 d] 37));rw [g] at cG;go_enter Tryz.func49,Tryz.ntmps49
 go_wp2_with (go_at_call 95;refine cG.mono ?_;rintro e w1 ⟨rfl,bel⟩)
 go_ret;exact ⟨rfl,(box3 bel).2.2.2.2⟩
theorem text_yes (y m d:Int) (w:World) (g:good y m d=true) :
  Calls Tryz.prog 49 #[dv y m d] w fun e w'=>e=.returned (.string ⟨(txt y m d).toArray⟩)∧Below w.heap.size w w':=by
 have cG:=good_any y m d (w.alloc (.cells #[.int .i64 y,.int .i64 m,.int .i64 d] 37));rw [g] at cG;obtain ⟨h0,h1,h2,h3,h4,h5⟩:=good_small g
 have cY:∀W,Calls Tryz.prog 96 #[.int .i64 y,.int .i64 4] W fun e w'=>e=.returned (.string ⟨(pad 4 y.toNat).toArray⟩)∧Below W.heap.size W w':=
  fun W=>digits_any y 4 W h0 h1 (by omega) (by omega)
 have cM:∀W,Calls Tryz.prog 96 #[.int .i64 m,.int .i64 2] W fun e w'=>e=.returned (.string ⟨(pad 2 m.toNat).toArray⟩)∧Below W.heap.size W w':=
  fun W=>digits_any m 2 W h2 (by omega) (by omega) (by omega)
 have cD:∀W,Calls Tryz.prog 96 #[.int .i64 d,.int .i64 2] W fun e w'=>e=.returned (.string ⟨(pad 2 d.toNat).toArray⟩)∧Below W.heap.size W w':=
  fun W=>digits_any d 2 W h4 (by omega) (by omega) (by omega)
 obtain ⟨Y,hY⟩:∃S:ByteArray,S=⟨(pad 4 y.toNat).toArray⟩:=⟨_,rfl⟩;obtain ⟨M,hM⟩:∃S:ByteArray,S=⟨(pad 2 m.toNat).toArray⟩:=⟨_,rfl⟩;obtain ⟨D,hD⟩:∃S:ByteArray,S=⟨(pad 2 d.toNat).toArray⟩:=⟨_,rfl⟩;have zY:Y.size=4:=by rw [hY,ba_size,pad_length]
 have zM:M.size=2:=by rw [hM,ba_size,pad_length]
 have zD:D.size=2:=by rw [hD,ba_size,pad_length]
 rw [←hY] at cY;rw [←hM] at cM;rw [←hD] at cD
 have fin:Hid (Y++⟨#[45]⟩++M++⟨#[45]⟩++D=⟨(txt y m d).toArray⟩):=hid (by
  rw [hY,hM,hD,show (⟨#[45]⟩:ByteArray)=⟨([45]:List UInt8).toArray⟩ from rfl,ba_append,ba_append,ba_append,ba_append]
  rfl)
 clear hY hM hD h0 h1 h2 h3 h4 h5 g;unfold dv;unfold dv at cG;go_enter Tryz.func49,Tryz.ntmps49
 go_wp2_with (go_at_call 95;refine cG.mono ?_;rintro e w1 ⟨rfl,bel⟩;have M3:=box3 bel;obtain ⟨c0,c1,c2,hlt,b1⟩:=M3)
 clear cG bel;have k0:=cell_regrown c0;have k1:=cell_regrown c1;have k2:=cell_regrown c2;have qY:=fun d os=>Calls.regrown_of (cY (grow (redrawn w1 d) os));have qM:=fun d os=>Calls.regrown_of (cM (grow (redrawn w1 d) os));have qD:=fun d os=>Calls.regrown_of (cD (grow (redrawn w1 d) os));clear cY cM cD;refine wp_region_quiet_below (by kernel_rfl) (by kernel_rfl) ?_;repeat (quiet_step (first|(go_at_call_of 96 (Value.int IntKind.i64 y);exact qY _ _)|(go_at_call_of 96 (Value.int IntKind.i64 m);exact qM _ _)|(go_at_call_of 96 (Value.int IntKind.i64 d);exact qD _ _)))
 refine wpQuiet_nil ?_;intro _ hw';obtain ⟨⟨dq,osq⟩,hw''⟩:=hw';subst hw'';go_wp2;go_ret;exact ⟨ret_s fin.out,b1.trans ((below_regrown w1 dq osq).mono b1.size)⟩
end R3
namespace R8
open Go.RowKit Go.Sort P Mm Sw
theorem day3 (d:Day) (w:World):Calls Tryz.prog 49 #[dC d] w fun e w'=>e=.returned (.string ⟨(dayT d).toArray⟩)∧Below w.heap.size w w':=by
 unfold dayT;cases hg:good d.y d.m d.d with
 | false=>exact R3.text_no d.y d.m d.d w hg
 | true=>exact R3.text_yes d.y d.m d.d w hg
theorem dec4 (n p:Int) (w:World) (h0:0≤n) (hn:I64 n) (p0:0≤p) (p9:p≤9):Calls Tryz.prog 98 #[.int .i64 n,.int .i64 p] w fun e w'=>e=.returned (.string ⟨(decT n p.toNat).toArray⟩)∧Below w.heap.size w w':=R4.text_yes n p w h0 hn p0 p9
theorem mode_any (m:Int) (w:World):Calls Tryz.prog 99 #[.int .i64 m] w fun e w'=>e=.returned (.string ⟨(modeT m).toArray⟩)∧Below w.heap.size w w':=by
 have hc:m<0∨4≤m∨m=0∨m=1∨m=2∨m=3:=by omega
 rcases hc with h|h|rfl|rfl|rfl|rfl
 ·have e:modeT m=[]:=by unfold modeT;rw [if_neg (by omega),if_neg (by omega),if_neg (by omega),if_neg (by omega)]
  rw [e];clear e;go_enter Tryz.func99,Tryz.ntmps99
  go_wp2;go_ret;exact ⟨rfl,Below.refl _ _⟩
 ·have e:modeT m=[]:=by unfold modeT;rw [if_neg (by omega),if_neg (by omega),if_neg (by omega),if_neg (by omega)]
  have h':¬ m<0:=by omega
  have h3:3<m:=by omega
  rw [e];clear e h;go_enter Tryz.func99,Tryz.ntmps99
  go_wp2;go_ret;exact ⟨rfl,Below.refl _ _⟩
 all_goals
  go_enter Tryz.func99,Tryz.ntmps99
  go_wp2;go_ret;exact ⟨rfl,bel_alloc _ _⟩
theorem window_any (x:Win) (w:World):Calls Tryz.prog 51 #[wC x] w fun e w'=>e=.returned (.string ⟨(winT x).toArray⟩)∧Below w.heap.size w w':=by
 cases hx:x.has with
 | false=>
   have e:winT x=[]:=by unfold winT;rw [hx];rfl
   rw [e];unfold wC;rw [hx];go_enter Tryz.func51,Tryz.ntmps51
   go_wp2;go_ret;exact ⟨rfl,bel_alloc _ _⟩
 | true=>
   obtain ⟨X,hX⟩:∃S:ByteArray,S=⟨(dayT x.a).toArray⟩:=⟨_,rfl⟩;obtain ⟨Y,hY⟩:∃S:ByteArray,S=⟨(dayT x.b).toArray⟩:=⟨_,rfl⟩;have zX:X.size≤10:=by rw [hX,ba_size];exact dayT_len _
   have zY:Y.size≤10:=by rw [hY,ba_size];exact dayT_len _
   have fin:Hid ((⟨#[32,102,114,111,109,32]⟩:ByteArray)++X++⟨#[32,116,111,32]⟩++Y=⟨(winT x).toArray⟩):=hid (by
    unfold winT
    rw [hx,if_pos rfl,hX,hY,show (⟨#[32,102,114,111,109,32]⟩:ByteArray)=⟨bFrom.toArray⟩ from rfl,show (⟨#[32,116,111,32]⟩:ByteArray)=⟨bTo.toArray⟩ from rfl,ba_append,ba_append,ba_append])
   have cX:=fun W=>day3 x.a W;have cY:=fun W=>day3 x.b W;rw [←hX] at cX;rw [←hY] at cY;unfold dC at cX cY;unfold wC;rw [hx];obtain ⟨has,⟨ay,am,ad⟩,⟨b_y,bm,bd⟩⟩:=x;simp only at cX cY;clear hX hY hx;go_enter Tryz.func51,Tryz.ntmps51
   go_upto_region 3 with fail
   obtain ⟨w1,hw1⟩:∃W,W=w.alloc (.cells #[.bool true,.int .i64 ay,.int .i64 am,.int .i64 ad,.int .i64 b_y,.int .i64 bm,.int .i64 bd] 51):=⟨_,rfl⟩;have b1:Below w.heap.size w w1:=by rw [hw1];exact bel_alloc _ _
   have c1:w1.cell? ⟨w.heap.size,1,none⟩=some (.int .i64 ay):=by rw [hw1,World.cell?_alloc_new];rfl
   have c2:w1.cell? ⟨w.heap.size,2,none⟩=some (.int .i64 am):=by rw [hw1,World.cell?_alloc_new];rfl
   have c3:w1.cell? ⟨w.heap.size,3,none⟩=some (.int .i64 ad):=by rw [hw1,World.cell?_alloc_new];rfl
   have c4:w1.cell? ⟨w.heap.size,4,none⟩=some (.int .i64 b_y):=by rw [hw1,World.cell?_alloc_new];rfl
   have c5:w1.cell? ⟨w.heap.size,5,none⟩=some (.int .i64 bm):=by rw [hw1,World.cell?_alloc_new];rfl
   have c6:w1.cell? ⟨w.heap.size,6,none⟩=some (.int .i64 bd):=by rw [hw1,World.cell?_alloc_new];rfl
   rw [←hw1];clear hw1;have k1:=cell_regrown c1;have k2:=cell_regrown c2;have k3:=cell_regrown c3;have k4:=cell_regrown c4;have k5:=cell_regrown c5;have k6:=cell_regrown c6;have qX:=fun d os=>Calls.regrown_of (cX (grow (redrawn w1 d) os));have qY:=fun d os=>Calls.regrown_of (cY (grow (redrawn w1 d) os));clear cX cY c1 c2 c3 c4 c5 c6;refine wp_region_quiet_below (by kernel_rfl) (by kernel_rfl) ?_;repeat (go_big_quiet_step (first|(go_at_call_of 49 (Value.agg #[Value.int IntKind.i64 ay,Value.int IntKind.i64 am,Value.int IntKind.i64 ad]);exact qX _ _)|(go_at_call 49;exact qY _ _)))
   refine wpQuiet_nil ?_;intro _ hw';obtain ⟨⟨dq,osq⟩,hw''⟩:=hw';subst hw'';go_wp2;go_ret;exact ⟨ret_s fin.out,b1.trans ((below_regrown w1 dq osq).mono b1.size)⟩
def bCharge:List UInt8:=[99,104,97,114,103,101,32]
theorem ba_lit (l:List UInt8) (s:ByteArray) (h:s.data.toList=l):s=⟨l.toArray⟩:=by rw [←h]
theorem put2 {V X:ByteArray} {L x:List UInt8} (hV:V=⟨L.toArray⟩) (hX:X.data.toList=x):V++X=⟨(L++x).toArray⟩:=by
 rw [hV,ba_lit _ _ hX,ba_append]
theorem put3 {V A X:ByteArray} {L a x:List UInt8} (hV:V=⟨L.toArray⟩) (hA:A.data.toList=a) (hX:X.data.toList=x):V++A++X=⟨(L++(a++x)).toArray⟩:=by
 rw [put2 (put2 hV hA) hX,List.append_assoc]
theorem put4 {V A B X:ByteArray} {L a b x:List UInt8} (hV:V=⟨L.toArray⟩) (hA:A.data.toList=a) (hB:B.data.toList=b) (hX:X.data.toList=x):V++A++B++X=⟨(L++(a++b++x)).toArray⟩:=by
 rw [put2 (put2 (put2 hV hA) hB) hX,List.append_assoc,List.append_assoc,List.append_assoc]
theorem put6 {V A B C D X:ByteArray} {L a b c d x:List UInt8} (hV:V=⟨L.toArray⟩) (hA:A.data.toList=a) (hB:B.data.toList=b) (hC:C.data.toList=c) (hD:D.data.toList=d) (hX:X.data.toList=x):V++A++B++C++D++X=⟨(L++(a++b++c++d++x)).toArray⟩:=by
 rw [put2 (put2 (put2 (put2 (put2 hV hA) hB) hC) hD) hX];simp only [List.append_assoc]
def cAll (n:Int):List UInt8:=if n=0 then [] else tellT 1 [wAllowance,nmbT n]
def cBlk (n:Int):List UInt8:=if n=1 then [] else tellT 1 [wBlock,nmbT n]
theorem cAll_pos {n:Int} (h:¬ n=0):cAll n=[9,97,108,108,111,119,97,110,99,101,32]++nmbT n++[59,10]:=by
 unfold cAll tellT ln;rw [if_neg h,join2];simp [wAllowance]
theorem cBlk_pos {n:Int} (h:¬ n=1):cBlk n=[9,98,108,111,99,107,32]++nmbT n++[59,10]:=by
 unfold cBlk tellT ln;rw [if_neg h,join2];simp [wBlock]
theorem tier_up (t:Tier):tierT false t=[9,9,117,112,116,111,32]++nmbT t.upto++[32,114,97,116,101,32]++decT t.rate 6++[59,10]:=by
 show tellT 2 _=_
 unfold tellT ln;rw [join4];simp [wUpto,wRate]
theorem tier_last (t:Tier):tierT true t=[9,9,114,101,115,116,32,114,97,116,101,32]++decT t.rate 6++[59,10]:=by
 show tellT 2 _=_
 unfold tellT ln;rw [join2];simp [bRest]
theorem adj_1 (n m:Int):adjT ⟨1,n,m⟩=[9,112,101,114,99,101,110,116,32]++decT n 3++[32]++modeT m++[59,10]:=by
 show tellT 1 _=_
 unfold tellT ln;rw [join3];simp [wPercent]
theorem adj_2 (n m:Int):adjT ⟨2,n,m⟩=[9,99,97,112,32]++nmbT n++[59,10]:=by
 show tellT 1 _=_
 unfold tellT ln;rw [join2];simp [wCap]
theorem adj_3 (n m:Int):adjT ⟨3,n,m⟩=[9,109,105,110,105,109,117,109,32]++nmbT n++[59,10]:=by
 show tellT 1 _=_
 unfold tellT ln;rw [join2];simp [wMinimum]
theorem adj_4 (n m:Int):adjT ⟨4,n,m⟩=[9,97,100,100,32]++nmbT n++[59,10]:=by
 show tellT 1 _=_
 unfold tellT ln;rw [join2];simp [wAdd]
theorem adj_0 {k:Int} (n m:Int) (h1:¬ k=1) (h2:¬ k=2) (h3:¬ k=3) (h4:¬ k=4):adjT ⟨k,n,m⟩=[]:=by
 unfold adjT;rw [if_neg h1,if_neg h2,if_neg h3,if_neg h4]
theorem round_text (m:Int):ln 1 [125]++tellT 1 [wRound,modeT m]=[9,125,10,9,114,111,117,110,100,32]++modeT m++[59,10]:=by
 unfold tellT ln;rw [join2];simp [wRound]
theorem head_text (m w:List UInt8):ln 0 (wCharge++[32]++m++w++[32,123])=bCharge++m++w++[32,123,10]:=by
 unfold ln;simp [wCharge,bCharge]
theorem rows_take {α:Type} {f:α→List UInt8} {xs:List α} {i:Nat} {x:α} (h:xs[i]?=some x):(xs.take (i+1)).flatMap f=(xs.take i).flatMap f++f x:=by
 rw [List.take_add_one,List.flatMap_append,h];simp
theorem charge_any (c:Charge) (ta:Option Addr) (tc:Nat) (aa:Option Addr) (ac:Nat) (w:World) (hc:ChargeLies w (chargeC c ta tc aa ac) c ta tc aa ac) (sc:ShT c) (hK:Kz w) :
  Calls Tryz.prog 52 #[.agg (chargeC c ta tc aa ac).toArray] w fun e w'=>e=.returned (.string ⟨(chargeT c).toArray⟩)∧Below w.heap.size w w':=by
 obtain ⟨Y,hY⟩:∃S:ByteArray,S=⟨(winT c.win).toArray⟩:=⟨_,rfl⟩;have zY:Y.size≤30:=by rw [hY,ba_size];exact winT_len _
 have zN:=sc.name;have cW:=fun W=>window_any c.win W;rw [←hY] at cW;unfold wC at cW;obtain ⟨w1,hw1⟩:∃W,W=w.alloc (.cells (chargeC c ta tc aa ac).toArray 57):=⟨_,rfl⟩;have b1:Below w.heap.size w w1:=by rw [hw1];exact bel_alloc _ _
 obtain ⟨k1,hk1⟩:∃k,k=w.heap.size:=⟨_,rfl⟩;have X1:Box w1 k1 (chargeC c ta tc aa ac):=by rw [hw1,hk1];exact Box.new _ _ _
 have C:Hid (∀W,Below w1.heap.size w1 W→W.cell? ⟨k1,8,none⟩=some (.int .i64 c.allowance)∧W.cell? ⟨k1,9,none⟩=some (.int .i64 c.block)∧W.cell? ⟨k1,10,none⟩=some (.int .i64 c.kind)∧W.cell? ⟨k1,11,none⟩=some (.slice ta c.tiers.length tc)∧W.cell? ⟨k1,12,none⟩=some (.int .i64 c.mode)∧W.cell? ⟨k1,13,none⟩=some (.slice aa c.adjusts.length ac)):=
  hid fun W b=>⟨(X1.on b).cell 8 _ rfl,(X1.on b).cell 9 _ rfl,(X1.on b).cell 10 _ rfl,(X1.on b).cell 11 _ rfl,(X1.on b).cell 12 _ rfl,(X1.on b).cell 13 _ rfl⟩
 have L0:Hid (∀W,Below w1.heap.size w1 W→Row tTier W ta c.tiers.length tc c.tiers∧Row tAdj W aa c.adjusts.length ac c.adjusts∧Kz W∧Below w.heap.size w W):=
  hid fun W b=>⟨hc.tiers.on (bel_on b1 b),hc.adjusts.on (bel_on b1 b),hK.later (bel_on b1 b),bel_on b1 b⟩
 obtain ⟨L,hL⟩:∃L,L=ln 0 (wCharge++[32]++c.meter.data.toList++winT c.win++[32,123]):=⟨_,rfl⟩;have hT:chargeT c=L++cAll c.allowance++cBlk c.block++(ln 1 (kindT c.kind++[32,123])++tiersUp c.tiers c.tiers.length++ln 1 [125])++tellT 1 [wRound,modeT c.mode]++c.adjusts.flatMap adjT++ln 0 [125]:=by rw [hL];rfl
 have hV:Hid ((⟨#[99,104,97,114,103,101,32]⟩:ByteArray)++c.meter++Y++⟨#[32,123,10]⟩=⟨L.toArray⟩):=hid (by
  rw [hL,head_text,put4 (V:=⟨#[99,104,97,114,103,101,32]⟩) (L:=bCharge) rfl rfl (show Y.data.toList=winT c.win by rw [hY]) (X:=⟨#[32,123,10]⟩) rfl]
  simp only [List.append_assoc])
 have d0:=X1.cell 0 _ rfl;have d1:=X1.cell 1 _ rfl;have d2:=X1.cell 2 _ rfl;have d3:=X1.cell 3 _ rfl;have d4:=X1.cell 4 _ rfl;have d5:=X1.cell 5 _ rfl;have d6:=X1.cell 6 _ rfl;have d7:=X1.cell 7 _ rfl;have HT:=hid hT;have HW:=hid hw1;have HK1:=hid hk1;have SC:=hid sc;clear hY hw1 b1 hk1 X1 hc hK hL hT sc;unfold chargeC at HW ⊢;go_enter Tryz.func52,Tryz.ntmps52
 go_upto_region 1 with fail
 rw [←HW.out,←HK1.out];clear HW HK1;have k0:=cell_regrown d0;have k1':=cell_regrown d1;have k2:=cell_regrown d2;have k3:=cell_regrown d3;have k4:=cell_regrown d4;have k5:=cell_regrown d5;have k6:=cell_regrown d6;have k7:=cell_regrown d7;have qW:=fun d os=>Calls.regrown_of (cW (grow (redrawn w1 d) os));clear cW d0 d1 d2 d3 d4 d5 d6 d7;refine wp_region_quiet_below (by kernel_rfl) (by kernel_rfl) ?_;repeat (go_big_quiet_step (first|(go_at_call 51;exact qW _ _)))
 refine wpQuiet_nil ?_;intro w2 hw';obtain ⟨⟨dq,osq⟩,hw''⟩:=hw';have B2:Hid (Below w1.heap.size w1 w2):=hid (by subst hw'';exact below_regrown w1 dq osq);clear hw'' qW k0 k1' k2 k3 k4 k5 k6 k7;obtain ⟨V,hVV⟩:∃V,V=(⟨#[99,104,97,114,103,101,32]⟩:ByteArray)++c.meter++Y++⟨#[32,123,10]⟩:=⟨_,rfl⟩
 have zV:V.size≤100100:=by
  rw [hVV,ByteArray.size_append,ByteArray.size_append,ByteArray.size_append];show 7+_+_+3≤_
  omega
 rw [←hVV] at hV ⊢;clear hVV zY zN;obtain ⟨e8,e9,e10,e11,e12,e13⟩:=C.out _ B2.out;clear e9 e10 e11 e12 e13;have SA:Hid ((0≤c.allowance∧I64 c.allowance)∧(0≤c.block∧I64 c.block)∧I64 c.mode):=hid ⟨⟨SC.out.nums.1,SC.out.i64.1.1⟩,⟨SC.out.nums.2,SC.out.i64.1.2⟩,SC.out.i64.2.2⟩;obtain ⟨al,hal⟩:∃al,al=c.allowance:=⟨_,rfl⟩;obtain ⟨bl,hbl⟩:∃bl,bl=c.block:=⟨_,rfl⟩;obtain ⟨kd,hkd⟩:∃kd,kd=c.kind:=⟨_,rfl⟩;rw [←hal] at e8;rw [←hal,←hbl] at SA;rw [←hal,←hbl,←hkd] at HT;rw [←hal,←hbl,←hkd] at C;have KD:Hid (kd=1∨kd=2):=hid (by rw [hkd];exact SC.out.kind);clear hal hbl hkd
 go_upto_if 18 with fail
 go_cut [3] (fun v wx=>∃V:ByteArray,v=.string V∧V.size≤100200∧Hid (V=⟨(L++cAll al).toArray⟩)∧Hid (Below w1.heap.size w1 wx))
 case first=>
  by_cases h0:al=0
  ·subst h0;go_wp2;go_meet;exact ⟨V,rfl,by omega,hid (by rw [hV.out,show cAll 0=[] from rfl,List.append_nil]),B2⟩
  ·have cI:=tx.itoa al w2 (L0.out w2 B2.out).2.2.1 SA.out.1.1 SA.out.1.2;obtain ⟨X,hX⟩:∃S:ByteArray,S=⟨(nmbT al).toArray⟩:=⟨_,rfl⟩;have zX:X.size≤20:=by rw [hX,ba_size];exact nmbT_len SA.out.1.2
   rw [←hX] at cI;have F:=hid (put4 hV.out (A:=⟨#[9,97,108,108,111,119,97,110,99,101,32]⟩) rfl (show X.data.toList=nmbT al by rw [hX]) (X:=⟨#[59,10]⟩) rfl);have E:=hid (cAll_pos h0);clear hX;go_wp2_with fail
   refine cI.mono ?_;rintro e w3 ⟨rfl,b3⟩;have B3:=hid (bel_on B2.out b3);clear b3 cI;go_wp2;go_meet;exact ⟨_,rfl,by rw [ByteArray.size_append,ByteArray.size_append,ByteArray.size_append];show _+11+_+2≤_;omega,hid (by rw [E.out];exact F.out),B3⟩
 case rest=>
  obtain ⟨V1,rfl,zV1,hV1,hB1⟩:=hcut;obtain ⟨L1,hL1⟩:∃X,X=L++cAll al:=⟨_,rfl⟩;rw [←hL1] at hV1 HT;clear hV B2 zV e8 hL1;obtain ⟨w3,hw3⟩:∃w3,w3=wc:=⟨_,rfl⟩;rw [←hw3] at hB1 ⊢;clear hw3;obtain ⟨e8,e9,e10,e11,e12,e13⟩:=C.out _ hB1.out;clear e8 e10 e11 e12 e13
  go_upto_if 28 with fail
  go_cut [3] (fun v wx=>∃V:ByteArray,v=.string V∧V.size≤100300∧Hid (V=⟨(L1++cBlk bl).toArray⟩)∧Hid (Below w1.heap.size w1 wx))
  case first=>
   by_cases h0:bl=1
   ·subst h0;go_wp2;go_meet;exact ⟨V1,rfl,by omega,hid (by rw [hV1.out,show cBlk 1=[] from rfl,List.append_nil]),hB1⟩
   ·have cI:=tx.itoa bl w3 (L0.out w3 hB1.out).2.2.1 SA.out.2.1.1 SA.out.2.1.2;obtain ⟨X,hX⟩:∃S:ByteArray,S=⟨(nmbT bl).toArray⟩:=⟨_,rfl⟩;have zX:X.size≤20:=by rw [hX,ba_size];exact nmbT_len SA.out.2.1.2
    rw [←hX] at cI;have F:=hid (put4 hV1.out (A:=⟨#[9,98,108,111,99,107,32]⟩) rfl (show X.data.toList=nmbT bl by rw [hX]) (X:=⟨#[59,10]⟩) rfl);have E:=hid (cBlk_pos h0);clear hX;go_wp2_with fail
    refine cI.mono ?_;rintro e w4 ⟨rfl,b3⟩;have B3:=hid (bel_on hB1.out b3);clear b3 cI;go_wp2;go_meet;exact ⟨_,rfl,by rw [ByteArray.size_append,ByteArray.size_append,ByteArray.size_append];show _+7+_+2≤_;omega,hid (by rw [E.out];exact F.out),B3⟩
  case rest=>
   obtain ⟨V2,rfl,zV2,hV2,hB2⟩:=hcut;obtain ⟨L2,hL2⟩:∃X,X=L1++cBlk bl:=⟨_,rfl⟩;rw [←hL2] at hV2 HT;clear hV1 hB1 zV1 e9 hL2;obtain ⟨w4,hw4⟩:∃w3,w3=wc:=⟨_,rfl⟩;rw [←hw4] at hB2 ⊢;clear hw4;obtain ⟨e8,e9,e10,e11,e12,e13⟩:=C.out _ hB2.out;clear e8 e9 e11 e12 e13
   go_upto_if 38 with fail
   go_cut [3] (fun v wx=>∃V:ByteArray,v=.string V∧V.size≤100400∧Hid (V=⟨(L2++ln 1 (kindT kd++[32,123])).toArray⟩)∧Hid (Below w1.heap.size w1 wx))
   case first=>
    have hk:=KD.out;rcases hk with rfl|rfl
    ·have F:=hid (put2 hV2.out (X:=⟨#[9,103,114,97,100,117,97,116,101,100,32,123,10]⟩) rfl);go_wp2;go_meet;exact ⟨_,rfl,by rw [ByteArray.size_append];show _+13≤_;omega,hid F.out,hB2⟩
    ·have F:=hid (put2 hV2.out (X:=⟨#[9,118,111,108,117,109,101,32,123,10]⟩) rfl);go_wp2;go_meet;exact ⟨_,rfl,by rw [ByteArray.size_append];show _+10≤_;omega,hid F.out,hB2⟩
   case rest=>
    obtain ⟨V3,rfl,zV3,hV3,hB3⟩:=hcut;obtain ⟨L3,hL3⟩:∃X,X=L2++ln 1 (kindT kd++[32,123]):=⟨_,rfl⟩;have HT3:Hid (chargeT c=L3++tiersUp c.tiers c.tiers.length++(ln 1 [125]++tellT 1 [wRound,modeT c.mode])++c.adjusts.flatMap adjT++ln 0 [125]):=hid (by rw [HT.out,hL3];simp only [List.append_assoc]);rw [←hL3] at hV3;clear hV2 hB2 zV2 e10 hL3 HT KD;obtain ⟨w5,hw5⟩:∃w3,w3=wc:=⟨_,rfl⟩;rw [←hw5] at hB3 ⊢;clear hw5;obtain ⟨nT,hnT⟩:∃n,n=c.tiers.length:=⟨_,rfl⟩;obtain ⟨nA,hnA⟩:∃n,n=c.adjusts.length:=⟨_,rfl⟩;have qT:nT≤20000:=by rw [hnT];exact SC.out.cnt.1
    have qA:nA≤20000:=by rw [hnA];exact SC.out.cnt.2
    rw [←hnT,←hnA] at C;have HnT:=hid hnT;have HnA:=hid hnA;obtain ⟨e8,e9,e10,e11,e12,e13⟩:=C.out _ hB3.out;clear e8 e9 e10 e12 e13 hnT hnA;go_wp2;clear e11;go_loopw [3,46] (fun v i wr=>∃(i':Nat) (V:ByteArray),v=.string V∧i=.int .i64 (i':Int)∧i'≤nT∧V.size≤100400+i'*200∧Hid (V=⟨(L3++tiersUp c.tiers i').toArray⟩)∧Hid (Below w1.heap.size w1 wr)) (fun _ i _=>nT-(intOf i).toNat)
    case atStart=>exact ⟨0,V3,rfl,rfl,Nat.zero_le _,by omega,hid (by rw [tiersUp,List.append_nil];exact hV3.out),hB3⟩
    case round=>
     obtain ⟨i',V,rfl,rfl,hi,hv,hV,hB⟩:=hrel;by_cases hlt:i'<nT
     ·obtain ⟨t,hti⟩:∃t,c.tiers[i']?=some t:=⟨_,List.getElem?_eq_getElem (by have:=HnT.out;omega)⟩;have g:=SC.out.tiers t (List.mem_of_getElem? hti);obtain ⟨b,o,e,lb,a0,a1,_⟩:=R6.tier_at (L0.out _ hB.out).1 hti;obtain ⟨X,hX⟩:∃S:ByteArray,S=⟨(decT t.rate (6:Int).toNat).toArray⟩:=⟨_,rfl⟩;obtain ⟨Y,hY⟩:∃S:ByteArray,S=⟨(nmbT t.upto).toArray⟩:=⟨_,rfl⟩;have zX:X.size≤30:=by rw [hX,ba_size];exact decT_len g.2.2 (by decide)
      have zY:Y.size≤20:=by rw [hY,ba_size];exact nmbT_len g.1.2
      have cD:=fun W=>dec4 t.rate 6 W g.2.1 g.2.2 (by decide) (by decide);have cI:=fun W k=>tx.itoa t.upto W k g.1.1 g.1.2;rw [←hX] at cD;rw [←hY] at cI;have CD:=hid cD;have CI:=hid cI;have HTI:=hid hti;have HX:=hid (show X.data.toList=decT t.rate 6 by rw [hX];rfl);have HY:=hid (show Y.data.toList=nmbT t.upto by rw [hY]);obtain ⟨wt,hwt⟩:∃W,W=wr.alloc (.cells #[t.upto,t.rate] 119):=⟨_,rfl⟩;have xt:Box wt wr.heap.size [t.upto,t.rate]:=by rw [hwt];exact Box.new _ _ _
      have bt:Below wr.heap.size wr wt:=by rw [hwt];exact bel_alloc _ _
      have BT:=hid (bel_on hB.out bt);have XT:=hid xt;have HWT:=hid hwt;have t0:=xt.cell 0 _ rfl;have t1:=xt.cell 1 _ rfl;obtain ⟨e8,e9,e10,e11,e12,e13⟩:=C.out _ BT.out;clear e8 e9 e10 e12 e13 g hti cD cI hX hY hwt bt xt;subst e;go_upto_region 12 with fail
      rw [←HWT.out];clear HWT a0 a1;by_cases hlast:i'+1<nT
      ·have he:((i':Nat):Int)+1<(nT:Int):=by omega
       have ST:=hid (tiersUp_step HTI.out (b:=false) (decide_eq_false (by have:=HnT.out;omega)));have F:=hid (put6 hV.out (A:=⟨#[9,9,117,112,116,111,32]⟩) rfl HY.out (C:=⟨#[32,114,97,116,101,32]⟩) rfl HX.out (X:=⟨#[59,10]⟩) rfl);go_wp2_with fail
       refine (CI.out wt (L0.out _ BT.out).2.2.1).mono ?_;rintro e w6 ⟨rfl,b6⟩;have B6:=hid (bel_on BT.out b6);have t1':=(XT.out.on b6).cell 1 _ rfl;clear b6 t0 t1 e11;go_wp2_with fail
       refine (CD.out w6).mono ?_;rintro e w7 ⟨rfl,b7⟩;have B7:=hid (bel_on B6.out b7);clear b7 t1';go_wp2;go_roundw
       case rel=>exact ⟨i'+1,_,rfl,by simp,by omega,by rw [ByteArray.size_append,ByteArray.size_append,ByteArray.size_append,ByteArray.size_append,ByteArray.size_append];show _+7+_+6+_+2≤_;omega,hid (by rw [ST.out,tier_up,←List.append_assoc];exact F.out),B7⟩
       case measure=>simp [intOf];omega
      ·have he:¬ ((i':Nat):Int)+1<(nT:Int):=by omega
       have ST:=hid (tiersUp_step HTI.out (b:=true) (decide_eq_true (by have:=HnT.out;omega)));have F:=hid (put4 hV.out (A:=⟨#[9,9,114,101,115,116,32,114,97,116,101,32]⟩) rfl HX.out (X:=⟨#[59,10]⟩) rfl);clear CI;go_wp2_with fail
       refine (CD.out wt).mono ?_;rintro e w7 ⟨rfl,b7⟩;have B7:=hid (bel_on BT.out b7);clear b7 t0 t1 e11;go_wp2;go_roundw
       case rel=>exact ⟨i'+1,_,rfl,by simp,by omega,by rw [ByteArray.size_append,ByteArray.size_append,ByteArray.size_append];show _+12+_+2≤_;omega,hid (by rw [ST.out,tier_last,←List.append_assoc];exact F.out),B7⟩
       case measure=>simp [intOf];omega
     ·obtain rfl:i'=nT:=by omega
      obtain ⟨L4,hL4⟩:∃X,X=L3++tiersUp c.tiers c.tiers.length:=⟨_,rfl⟩;obtain ⟨V4,hV4⟩:∃X,X=V:=⟨_,rfl⟩;rw [←hV4] at hV hv ⊢;have F4:Hid (V4=⟨L4.toArray⟩):=hid (by rw [hL4,←HnT.out];exact hV.out);have z4:V4.size≤5000000:=by omega
      replace HT3:Hid (chargeT c=L4++(ln 1 [125]++tellT 1 [wRound,modeT c.mode])++c.adjusts.flatMap adjT++ln 0 [125]):=hid (by rw [HT3.out,hL4]);have BB:=hB;clear hlt hi hB hV hv hV4 hL4 HnT hV3 zV3 hB3;obtain ⟨M,hM⟩:∃S:ByteArray,S=⟨(modeT c.mode).toArray⟩:=⟨_,rfl⟩;have zM:M.size≤8:=by rw [hM,ba_size];exact modeT_len _
      have cM:=mode_any c.mode wr;rw [←hM] at cM;have F5:=hid (put4 F4.out (A:=⟨#[9,125,10,9,114,111,117,110,100,32]⟩) rfl (show M.data.toList=modeT c.mode by rw [hM]) (X:=⟨#[59,10]⟩) rfl);clear hM;obtain ⟨e8,e9,e10,e11,e12,e13⟩:=C.out _ BB.out;clear e8 e9 e10 e11 e13;go_wp2_with fail
      refine cM.mono ?_;rintro e w6 ⟨rfl,b6⟩;have B6:=hid (bel_on BB.out b6);clear b6 cM e12;obtain ⟨L5,hL5⟩:∃X,X=L4++(ln 1 [125]++tellT 1 [wRound,modeT c.mode]):=⟨_,rfl⟩;obtain ⟨V5,hV5⟩:∃X,X=V4++⟨#[9,125,10,9,114,111,117,110,100,32]⟩++M++⟨#[59,10]⟩:=⟨_,rfl⟩;have F6:Hid (V5=⟨L5.toArray⟩):=hid (by rw [hV5,hL5,round_text];exact F5.out);have z5:V5.size≤5000100:=by rw [hV5,ByteArray.size_append,ByteArray.size_append,ByteArray.size_append];show _+10+_+2≤_;omega
      rw [←hL5] at HT3;obtain ⟨e8,e9,e10,e11,e12,e13⟩:=C.out _ B6.out;clear e8 e9 e10 e11 e12 F5 hL5 BB F4;go_upto_region 18 with fail
      rw [←hV5];clear hV5;go_wp2;clear e13 z4 zM;go_loopw [3,83] (fun v i wr=>∃(i':Nat) (V:ByteArray),v=.string V∧i=.int .i64 (i':Int)∧i'≤nA∧V.size≤5000100+i'*200∧Hid (V=⟨(L5++(c.adjusts.take i').flatMap adjT).toArray⟩)∧Hid (Below w1.heap.size w1 wr)) (fun _ i _=>nA-(intOf i).toNat)
      case atStart=>exact ⟨0,V5,rfl,rfl,Nat.zero_le _,by omega,hid (by rw [List.take_zero,List.flatMap_nil,List.append_nil];exact F6.out),B6⟩
      case round=>
       obtain ⟨i',V,rfl,rfl,hi,hv,hV,hB⟩:=hrel;by_cases hlt:i'<nA
       ·obtain ⟨t,hti⟩:∃t,c.adjusts[i']?=some t:=⟨_,List.getElem?_eq_getElem (by have:=HnA.out;omega)⟩;have g:=SC.out.adjs t (List.mem_of_getElem? hti);obtain ⟨b,o,e,lb,a0,a1,a2,_⟩:=R6.adj_at (L0.out _ hB.out).2.1 hti;have ST:=hid (rows_take (f:=adjT) hti);obtain ⟨kn,nm,md⟩:=t;simp only at g a0 a1 a2;obtain ⟨wt,hwt⟩:∃W,W=wr.alloc (.cells #[.int .i64 kn,.int .i64 nm,.int .i64 md] 121):=⟨_,rfl⟩;have xt:Box wt wr.heap.size [.int .i64 kn,.int .i64 nm,.int .i64 md]:=by rw [hwt];exact Box.new _ _ _
        have bt:Below wr.heap.size wr wt:=by rw [hwt];exact bel_alloc _ _
        have BT:=hid (bel_on hB.out bt);have t0:=xt.cell 0 _ rfl;have t1:=xt.cell 1 _ rfl;have t2:=xt.cell 2 _ rfl;have HWT:=hid hwt;have G:=hid g;clear hwt bt xt hti g;subst e;go_upto_region 21 with fail
        rw [←HWT.out];clear HWT a0 a1 a2;by_cases h1:kn=1
        ·subst h1;obtain ⟨X,hX⟩:∃S:ByteArray,S=⟨(decT nm (3:Int).toNat).toArray⟩:=⟨_,rfl⟩;obtain ⟨Y,hY⟩:∃S:ByteArray,S=⟨(modeT md).toArray⟩:=⟨_,rfl⟩;have zX:X.size≤30:=by rw [hX,ba_size];exact decT_len G.out.1.2 (by decide)
         have zY:Y.size≤8:=by rw [hY,ba_size];exact modeT_len _
         have cD:=fun W=>dec4 nm 3 W G.out.1.1 G.out.1.2 (by decide) (by decide);have cM:=fun W=>mode_any md W;rw [←hX] at cD;rw [←hY] at cM;have F:=hid (put6 hV.out (A:=⟨#[9,112,101,114,99,101,110,116,32]⟩) rfl (show X.data.toList=decT nm 3 by rw [hX];rfl) (C:=⟨#[32]⟩) rfl (show Y.data.toList=modeT md by rw [hY]) (X:=⟨#[59,10]⟩) rfl);clear hX hY;go_upto_region 23 with fail
         have x1:=cell_regrown t1;have x2:=cell_regrown t2;have qD:=fun d os=>Calls.regrown_of (cD (grow (redrawn wt d) os));have qM:=fun d os=>Calls.regrown_of (cM (grow (redrawn wt d) os));clear cD cM t0 t1 t2;refine wp_region_quiet_below (by kernel_rfl) (by kernel_rfl) ?_;repeat (go_big_quiet_step (first|(go_at_call 98;exact qD _ _)|(go_at_call 99;exact qM _ _)))
         refine wpQuiet_nil ?_;intro w7 hw';obtain ⟨⟨dq,osq⟩,hw''⟩:=hw';have B7:Hid (Below w1.heap.size w1 w7):=hid (by subst hw'';exact bel_on BT.out (below_regrown wt dq osq));clear hw'' qD qM x1 x2;go_wp2;go_roundw
         case rel=>exact ⟨i'+1,_,rfl,by simp,by omega,by rw [ByteArray.size_append,ByteArray.size_append,ByteArray.size_append,ByteArray.size_append,ByteArray.size_append];show _+9+_+1+_+2≤_;omega,hid (by rw [ST.out,adj_1,←List.append_assoc];exact F.out),B7⟩
         case measure=>simp [intOf];omega
        ·by_cases h2:kn=2
         ·subst h2;obtain ⟨X,hX⟩:∃S:ByteArray,S=⟨(nmbT nm).toArray⟩:=⟨_,rfl⟩;have zX:X.size≤20:=by rw [hX,ba_size];exact nmbT_len G.out.1.2
          have cI:=tx.itoa nm wt (L0.out _ BT.out).2.2.1 G.out.1.1 G.out.1.2;rw [←hX] at cI;have F:=hid (put4 hV.out (A:=⟨#[9,99,97,112,32]⟩) rfl (show X.data.toList=nmbT nm by rw [hX]) (X:=⟨#[59,10]⟩) rfl);clear hX t2;go_wp2_with fail
          refine cI.mono ?_;rintro e w7 ⟨rfl,b7⟩;have B7:=hid (bel_on BT.out b7);clear b7 cI t0 t1;go_wp2;go_roundw
          case rel=>exact ⟨i'+1,_,rfl,by simp,by omega,by rw [ByteArray.size_append,ByteArray.size_append,ByteArray.size_append];show _+5+_+2≤_;omega,hid (by rw [ST.out,adj_2,←List.append_assoc];exact F.out),B7⟩
          case measure=>simp [intOf];omega
         ·by_cases h3:kn=3
          ·subst h3;obtain ⟨X,hX⟩:∃S:ByteArray,S=⟨(nmbT nm).toArray⟩:=⟨_,rfl⟩;have zX:X.size≤20:=by rw [hX,ba_size];exact nmbT_len G.out.1.2
           have cI:=tx.itoa nm wt (L0.out _ BT.out).2.2.1 G.out.1.1 G.out.1.2;rw [←hX] at cI;have F:=hid (put4 hV.out (A:=⟨#[9,109,105,110,105,109,117,109,32]⟩) rfl (show X.data.toList=nmbT nm by rw [hX]) (X:=⟨#[59,10]⟩) rfl);clear hX t2;go_wp2_with fail
           refine cI.mono ?_;rintro e w7 ⟨rfl,b7⟩;have B7:=hid (bel_on BT.out b7);clear b7 cI t0 t1;go_wp2;go_roundw
           case rel=>exact ⟨i'+1,_,rfl,by simp,by omega,by rw [ByteArray.size_append,ByteArray.size_append,ByteArray.size_append];show _+9+_+2≤_;omega,hid (by rw [ST.out,adj_3,←List.append_assoc];exact F.out),B7⟩
           case measure=>simp [intOf];omega
          ·by_cases h4:kn=4
           ·subst h4;obtain ⟨X,hX⟩:∃S:ByteArray,S=⟨(nmbT nm).toArray⟩:=⟨_,rfl⟩;have zX:X.size≤20:=by rw [hX,ba_size];exact nmbT_len G.out.1.2
            have cI:=tx.itoa nm wt (L0.out _ BT.out).2.2.1 G.out.1.1 G.out.1.2;rw [←hX] at cI;have F:=hid (put4 hV.out (A:=⟨#[9,97,100,100,32]⟩) rfl (show X.data.toList=nmbT nm by rw [hX]) (X:=⟨#[59,10]⟩) rfl);clear hX t2;go_wp2_with fail
            refine cI.mono ?_;rintro e w7 ⟨rfl,b7⟩;have B7:=hid (bel_on BT.out b7);clear b7 cI t0 t1;go_wp2;go_roundw
            case rel=>exact ⟨i'+1,_,rfl,by simp,by omega,by rw [ByteArray.size_append,ByteArray.size_append,ByteArray.size_append];show _+5+_+2≤_;omega,hid (by rw [ST.out,adj_4,←List.append_assoc];exact F.out),B7⟩
            case measure=>simp [intOf];omega
           ·have E:=hid (adj_0 nm md h1 h2 h3 h4);clear t1 t2;go_wp2;go_roundw
            case rel=>exact ⟨i'+1,V,rfl,by simp,by omega,by omega,hid (by rw [ST.out,E.out,List.append_nil];exact hV.out),BT⟩
            case measure=>simp [intOf];omega
       ·obtain rfl:i'=nA:=by omega
        have fin:V++⟨#[125,10]⟩=⟨(chargeT c).toArray⟩:=by
         rw [HT3.out,put2 hV.out (X:=⟨#[125,10]⟩) (x:=ln 0 [125]) rfl,HnA.out,List.take_length]
        have FI:=hid fin;have BF:=hid (L0.out _ hB.out).2.2.2;clear fin;go_wp2;go_ret;exact ⟨ret_s FI.out,BF.out⟩
end R8
end Go.Proofs.YtofbobdhkbmbgaaGreatDoor
