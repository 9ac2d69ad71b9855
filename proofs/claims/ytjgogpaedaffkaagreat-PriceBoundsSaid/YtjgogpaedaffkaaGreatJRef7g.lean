/- What the document's answers for layer 7 (poundageref07) come to: Parse. -/
import Derived.Test.YtjgogpaedaffkaaGreatJJoin
set_option maxRecDepth 100000
set_option maxHeartbeats 100000000
namespace Go.Proofs.YtjgogpaedaffkaaGreat
namespace P
end P
namespace Tl
end Tl
namespace Mm
end Mm
namespace Md
end Md
namespace R7
open Go.RowKit Go.Sort P Tl Mm Md
def PsQ (w:World) (r:Plan×Int×Int×Int) (x:Ending) (w':World):Prop:=
 ∃ma mc fa fc ca cc hs,x=.returned (.tuple #[.agg (planC r.1 ma mc fa fc ca cc).toArray,.int .i64 r.2.1,.int .i64 r.2.2.1,.int .i64 r.2.2.2])∧hs.length=r.1.charges.length∧
  Owns w' w.heap.size (rowOf r.1 ma mc fa fc ca cc hs)∧Below w.heap.size w w'
theorem results_plan {P:Program} {fn:Func} {p a b c:Tmp} {ty:TypeId} (h:fn.results = #[.cell p ty,.tmp a,.tmp b,.tmp c]) (tmps:Array Value) (w:World) (k:Nat) (cs:List Value) (d:TypeDesc)
  (hp:tmps.getD p undef=.pointer (some ⟨k,0,none⟩)) (hc:w.rangeAt k 0 cs) (hu:P.underlying ty=some d) (hd:d.isRow=true) (hi:(P.info? ty).map (·.size)=some cs.length) :
  (results fn tmps).run P w=.ok (.tuple #[.agg cs.toArray,tmps.getD a undef,tmps.getD b undef,tmps.getD c undef]) w:=by
 have hp':tmps[p]?.getD undef=.pointer (some ⟨k,0,none⟩):=by simpa using hp
 simp [results,h,hp',asAddr,run_loadVar_mid w k 0 ty cs d hc hu hd hi]
theorem owns_none (w:World) (base:Nat):Owns w base (rowOf planZ none 0 none 0 none 0 []):=by
 refine ⟨fun s r hs=>?_,fun s t r r' k hs _ hk _=>?_⟩
 ·cases s with
  | m=>obtain rfl:=(Option.some.inj hs).symm;exact World.ownsRow_nil _ _ _ _
  | f=>obtain rfl:=(Option.some.inj hs).symm;exact World.ownsRow_nil _ _ _ _
  | c=>obtain rfl:=(Option.some.inj hs).symm;exact World.ownsRow_nil _ _ _ _
  | t i=>cases hs
  | a i=>cases hs
 ·cases s with
  | m=>obtain rfl:=(Option.some.inj hs).symm;cases hk
  | f=>obtain rfl:=(Option.some.inj hs).symm;cases hk
  | c=>obtain rfl:=(Option.some.inj hs).symm;cases hk
  | t i=>cases hs
  | a i=>cases hs
theorem parse_bad (l:ByteArray) (w:World) (tz:List Tok) (e1 e2 e3:Nat) (hlx:lexed l.data.toList=(tz,e1,e2,e3)) (he:e1≠0) :
  Calls Tryz.prog 10 #[.string l] w (PsQ w (planZ,e1,e2,e3)):=by
 have cL:=fun W=>R5.lex_any l W;rw [hlx] at cL;simp only at cL;clear hlx;have he':((e1:Int)==0)=false:=by simp;omega
 go_enter Tryz.func10,Tryz.ntmps10
 go_wp2_with fail
 obtain ⟨w1,hw1⟩:∃w1,w1=w.alloc (.cells [.string ⟨#[]⟩,.string ⟨#[]⟩,.int .i64 0,.int .i64 0,.int .i64 0,.int .i64 0,.int .i64 0,.int .i64 0,.slice none 0 0,.slice none 0 0,.slice none 0 0,.int .i64 0,.int .i64 0].toArray 45):=⟨_,rfl⟩;rw [←hw1];have rs1:Bx w1 w.heap.size zeroP:=by rw [hw1];exact Bx.new _ _ _
 have b1:Below w.heap.size w w1:=by rw [hw1];exact bel_alloc _ _
 have s1:w.heap.size<w1.heap.size:=by rw [hw1];simp
 refine (cL w1).mono ?_;rintro x w2 ⟨v,rfl,own2,b2⟩;have rs2:=hid (rs1.on b2);have b12:=hid (bel_on b1 b2);have s2:=hid (Nat.lt_of_lt_of_le s1 b2.size);have s1':=hid s1;clear rs1 b1 s1 hw1 b2 cL;clear own2;have rz:Hid (w2.there w.heap.size 0 13):=hid (there_of rs2.out.cell rs2.out.free (n:=13) rfl)
 go_wp2_with (first
  | (with_reducible refine wpList_store_mid (op:=Oper.mk none (Op.store 45 (Operand.tmp 2) (Operand.tmp 25)) _ _ _ _) ?_ 45 (.tmp 2) (.tmp 25) ?_ w.heap.size 0 #[.string ⟨#[]⟩,.string ⟨#[]⟩,.int .i64 0,.int .i64 0,.int .i64 0,.int .i64 0,.int .i64 0,.int .i64 0,.slice none 0 0,.slice none 0 0,.slice none 0 0,.int .i64 0,.int .i64 0] ?_ ?_ ?_ ?_ ?_ ?_;rfl;rfl;go_simp;go_simp;(simpa using rz.out);kernel_rfl;(simp [Value.oneCell']))
  | fail)
 have rr:(w2.setCells w.heap.size 0 [.string ⟨#[]⟩,.string ⟨#[]⟩,.int .i64 0,.int .i64 0,.int .i64 0,.int .i64 0,.int .i64 0,.int .i64 0,.slice none 0 0,.slice none 0 0,.slice none 0 0,.int .i64 0,.int .i64 0]).rangeAt w.heap.size 0 [.string ⟨#[]⟩,.string ⟨#[]⟩,.int .i64 0,.int .i64 0,.int .i64 0,.int .i64 0,.int .i64 0,.int .i64 0,.slice none 0 0,.slice none 0 0,.slice none 0 0,.int .i64 0,.int .i64 0]:=World.rangeAt_setCells_same _ _ _ _ rz.out;refine bodyPost_ret (v:=.tuple #[.agg #[.string ⟨#[]⟩,.string ⟨#[]⟩,.int .i64 0,.int .i64 0,.int .i64 0,.int .i64 0,.int .i64 0,.int .i64 0,.slice none 0 0,.slice none 0 0,.slice none 0 0,.int .i64 0,.int .i64 0],.int .i64 e1,.int .i64 e2,.int .i64 e3]) ?_ rfl ?_
 ·refine results_plan (p:=2) (a:=3) (b:=4) (c:=5) ?_ _ _ w.heap.size [.string ⟨#[]⟩,.string ⟨#[]⟩,.int .i64 0,.int .i64 0,.int .i64 0,.int .i64 0,.int .i64 0,.int .i64 0,.slice none 0 0,.slice none 0 0,.slice none 0 0,.int .i64 0,.int .i64 0] _ ?_ rr Tryz.underlying45 ?_ ?_
  ·rfl
  ·rfl
  ·rfl
  ·kernel_rfl
 exact ⟨none,0,none,0,none,0,[],rfl,rfl,owns_none _ _,below_setCells (Nat.le_refl _) _ _ _ b12.out⟩
theorem item_less {ts:List Tok} {s:St} (p:Plan) (h:Ok ts s) (ho:goesOn ts s=true):2*(ts.length-(itemS ts s p).2.i)+(if (itemS ts s p).2.err=0 then 1 else 0)<2*(ts.length-s.i)+(if s.err=0 then 1 else 0)∧s.i≤(itemS ts s p).2.i:=by
 have he:s.err=0:=by
  unfold goesOn at ho;simp only [Bool.and_eq_true,decide_eq_true_eq] at ho;exact ho.1
 have lt:=h.lt;rw [if_pos he];rcases item_next ts s p ho with k|⟨k1,_⟩
 ·refine ⟨?_,by omega⟩;split<;>omega
 ·rw [k1];have e:(wrg ts s 4).err=4:=by unfold wrg;rw [if_pos he]
  simp only;rw [e,wrg_i];exact ⟨by simp,Nat.le_refl _⟩
theorem quiet_store' {P:Program} {o:Oper} {a:Act} {C:World→Prop} {K:Act→Prop} (hd:o.dst=none) (ty:TypeId) (x y:Operand) (ho:o.op=.store ty x y) (b i:Nat) (cells:Array Value) (hx:a.eval x=.pointer (some ⟨b,i,none⟩)) (hy:a.eval y=.agg cells)
  (hC:∀w,C w→w.rangeAt b i cells.toList∧w.there b i cells.size) (hi:(P.info? ty).map (·.size)=some cells.size) (h1:cells.all (·.oneCell')=true) (h:K a):o.quiet P a C K:=
 quiet_store ty x y ho b i cells hx hy hC hi h1 (by rw [hd];exact h)
def eOf (W:World) (b:Nat):Nat:=match W.cell? ⟨b,2,none⟩ with
 | some (.int _ v)=>if v=0 then 1 else 0
 | _=>0
theorem eOf_ps {w:World} {b tb cap:Nat} {ts:List Tok} {s:St} (h:Ps w b tb cap ts s):eOf w b=if s.err=0 then 1 else 0:=by
 unfold eOf;rw [h.c2]
theorem ps_new {w2:World} {base tb cap:Nat} {tz:List Tok} {e t:TypeId} (h:w2.ownsRow base e 4 (.slice (some ⟨tb,0,none⟩) tz.length cap) tz.length (R5.tokCells tz)) (tl:tb<w2.heap.size) (hf:Fine tz) :
  Ps (w2.alloc (.cells #[.slice (some ⟨tb,0,none⟩) tz.length cap,.int .i64 0,.int .i64 0,.int .i64 0,.int .i64 0] t)) w2.heap.size tb cap tz st0:=by
 have B:=Bx.new w2 [.slice (some ⟨tb,0,none⟩) tz.length cap,.int .i64 0,.int .i64 0,.int .i64 0,.int .i64 0] t;refine ⟨B.lt,B.cell 0 _ rfl,B.cell 1 _ rfl,B.cell 2 _ rfl,B.cell 3 _ rfl,B.cell 4 _ rfl,B.free,by omega,by simp;omega,fun j x hj=>?_,by have:=hf.cnt;omega,fun x hx=>by have:=(hf.tok x hx).1;omega,⟨hf.toks,hf.toks.pos⟩⟩;have hl:j<tz.length:=(List.getElem?_eq_some_iff.1 hj).1
 have key:∀i u,[Value.int .i64 x.k,.string ⟨x.t.toArray⟩,.int .i64 x.ln,.int .i64 x.cl][i]?=some u→i<4→(w2.alloc (.cells #[.slice (some ⟨tb,0,none⟩) tz.length cap,.int .i64 0,.int .i64 0,.int .i64 0,.int .i64 0] t)).cell? ⟨tb,j*4+i,none⟩=some u:=fun i u hu hi=>by
  rw [(bel_alloc w2 _).cell tl,h.cellAt _ (by omega)];exact flat_get (cells:=fun t:Tok=>[.int .i64 t.k,.string ⟨t.t.toArray⟩,.int .i64 t.ln,.int .i64 t.cl]) (n:=4) (fun _=>rfl) tz j x i u hj hu
 exact ⟨key 0 _ rfl (by decide),key 1 _ rfl (by decide),key 2 _ rfl (by decide),key 3 _ rfl (by decide)⟩
theorem parse_good (l:ByteArray) (w:World) (tz:List Tok) (e2 e3:Nat) (hlx:lexed l.data.toList=(tz,0,e2,e3)) (hf:Fine tz) :
  Calls Tryz.prog 10 #[.string l] w (PsQ w (planS tz)):=by
 have cL:=fun W=>R5.lex_any l W;rw [hlx] at cL;simp only at cL;clear hlx;have FN:=hid hf;have hpos:=hf.toks.pos;clear hf;obtain ⟨PS,hPS⟩:∃PS,PS=planS tz:=⟨_,rfl⟩;rw [←hPS];have HPS:=hid hPS;clear hPS;go_enter Tryz.func10,Tryz.ntmps10
 go_wp2_with fail
 obtain ⟨w1,hw1⟩:∃w1,w1=w.alloc (.cells [.string ⟨#[]⟩,.string ⟨#[]⟩,.int .i64 0,.int .i64 0,.int .i64 0,.int .i64 0,.int .i64 0,.int .i64 0,.slice none 0 0,.slice none 0 0,.slice none 0 0,.int .i64 0,.int .i64 0].toArray 45):=⟨_,rfl⟩;rw [←hw1];have rs1:Bx w1 w.heap.size zeroP:=by rw [hw1];exact Bx.new _ _ _
 have b1:Below w.heap.size w w1:=by rw [hw1];exact bel_alloc _ _
 have s1:w.heap.size<w1.heap.size:=by rw [hw1];simp
 refine (cL w1).mono ?_;rintro x w2 ⟨v,rfl,own2,b2⟩;have rs2:=hid (rs1.on b2);have b12:=hid (bel_on b1 b2);have s2:=hid (Nat.lt_of_lt_of_le s1 b2.size);have s1':=hid s1;clear rs1 b1 s1 hw1 b2 cL;rcases own2.2 with ⟨_,hz0⟩|⟨tb,cap,cur,hv,htb,hcur,hrest⟩
 ·omega
 subst hv;have HT:=hid own2;have TB:=hid htb;have n0:(0:Int)<tz.length:=by omega
 have TL:=hid (show tb<w2.heap.size from (Array.getElem?_eq_some_iff.1 hcur).1);clear own2 hcur htb hrest cur;go_upto_region 5 with fail
 obtain ⟨w3,hw3⟩:∃w3,w3=w2.alloc (.cells #[.slice (some ⟨tb,0,none⟩) tz.length cap,.int .i64 0,.int .i64 0,.int .i64 0,.int .i64 0] 72):=⟨_,rfl⟩;rw [←hw3];obtain ⟨b,hb⟩:∃b,b=w2.heap.size:=⟨_,rfl⟩;have P3:Ps w3 b tb cap tz st0:=by rw [hw3,hb];exact ps_new HT.out TL.out FN.out
 have b23:Below w2.heap.size w2 w3:=by rw [hw3];exact bel_alloc _ _
 have s3:w3.heap.size=b+1:=by rw [hw3,hb];simp
 rw [←hb];have t2:=P3.at.2.2.1;have t3:=P3.at.2.2.2;have tl:=P3.tl;have HP3:=hid P3;have B3:=hid (bel_on b12.out b23);have RS3:=hid (rs2.out.on b23);have SB:=hid (show w.heap.size<b by rw [hb];exact s2.out);have S3:=hid s3;have NTR:=hid (show tb≠w.heap.size by have:=TB.out;have:=s1'.out;omega);obtain ⟨LN,hLN⟩:∃LN:Int,LN=((tk tz st0).ln:Int):=⟨_,rfl⟩;obtain ⟨CL,hCL⟩:∃CL:Int,CL=((tk tz st0).cl:Int):=⟨_,rfl⟩;rw [←hLN] at t2;rw [←hCL] at t3;rw [show st0.i*4+2=2 from rfl] at t2;rw [show st0.i*4+3=3 from rfl] at t3;have HLN:=hid hLN;have HCL:=hid hCL;clear hLN hCL;have KP:Hid (∀w',Below w3.heap.size w3 w'→w'.cell? ⟨tb,2,none⟩=some (.int .i64 LN)∧w'.cell? ⟨tb,3,none⟩=some (.int .i64 CL)∧Below w3.heap.size w3 w'):=hid fun w' h=>⟨by rw [h.cell tl];exact t2,by rw [h.cell tl];exact t3,h⟩;clear P3 b23 s3 hw3 hb rs2 b12 s1' s2 HT TB TL
 go_region_held3 (fun w'=>w'.cell? ⟨tb,2,none⟩=some (.int .i64 LN)∧w'.cell? ⟨tb,3,none⟩=some (.int .i64 CL)∧Below w3.heap.size w3 w')
  ((refine KP.out _ ?_;repeat (first|assumption|exact Below.refl _ _|(refine Below.drew ?_)|(refine alloc_on ?_ _)|(refine Below.setCell ?_ (by first|omega|(simp<;>omega)) _))))
  (fail)
 obtain ⟨w4,hw4⟩:∃w4,w4=(w3.alloc (.cells [.string ⟨#[]⟩,.string ⟨#[]⟩,.int .i64 0,.int .i64 0,.int .i64 0,.int .i64 0,.int .i64 0,.int .i64 0,.slice none 0 0,.slice none 0 0,.slice none 0 0,.int .i64 LN,.int .i64 CL].toArray 45)).drew:=⟨_,rfl⟩;obtain ⟨kp,hkp⟩:∃kp,kp=w3.heap.size:=⟨_,rfl⟩
 have C4:Pn w w4 b tb cap tz w.heap.size kp w4.heap.size st0 ⟨⟨#[]⟩,⟨#[]⟩,⟨0,0,0⟩,⟨0,0,0⟩,[],[],[],LN,CL⟩ none 0 none 0 none 0 []:=by
  have b34:Below w3.heap.size w3 w4:=by rw [hw4];exact (bel_alloc _ _).drew
  have s4:w4.heap.size=w3.heap.size+1:=by rw [hw4];simp
  have bx:Bx w4 kp [.string ⟨#[]⟩,.string ⟨#[]⟩,.int .i64 0,.int .i64 0,.int .i64 0,.int .i64 0,.int .i64 0,.int .i64 0,.slice none 0 0,.slice none 0 0,.slice none 0 0,.int .i64 LN,.int .i64 CL]:=by rw [hw4,hkp];exact (Bx.new _ _ _).on ((Below.refl _ _).drew)
  have ρe:rowOf ⟨⟨#[]⟩,⟨#[]⟩,⟨0,0,0⟩,⟨0,0,0⟩,[],[],[],LN,CL⟩ none 0 none 0 none 0 []=rowOf planZ none 0 none 0 none 0 []:=by funext s;cases s<;>rfl
  have h1:=S3.out;have h2:=SB.out;exact ⟨HP3.out.on b34,bx,RS3.out.on b34,by rw [ρe];exact owns_none _ _,rfl,bel_on B3.out b34,by omega,Nat.le_refl _,by omega,by omega,by omega,by omega,by omega,by omega,by omega,by omega,by omega,NTR.out,Nat.le_refl _⟩
 rw [←hw4,←hkp];have HC4:=hid C4;obtain ⟨base,hbase⟩:∃base,base=w4.heap.size:=⟨_,rfl⟩;obtain ⟨kr,hkr⟩:∃kr,kr=w.heap.size:=⟨_,rfl⟩;rw [←hbase,←hkr] at HC4;rw [←hkr];obtain ⟨n,hn⟩:∃n,n=tkn tz (wnt tz st0 wPlan) 1:=⟨_,rfl⟩;obtain ⟨c,hc⟩:∃c,c=tkn tz (wnt tz n.2 wCurrency) 1:=⟨_,rfl⟩;obtain ⟨a,ha⟩:∃a,a=dayS tz (wnt tz (wnt tz c.2 sSemi) wHorizon):=⟨_,rfl⟩;obtain ⟨d,hd⟩:∃d,d=dayS tz a.2:=⟨_,rfl⟩;have HH:Hid (headS tz st0=(⟨⟨n.1.toArray⟩,⟨c.1.toArray⟩,a.1,d.1,[],[],[],LN,CL⟩,wnt tz d.2 sSemi)):=hid (by rw [HLN.out,HCL.out,hd,ha,hc,hn];rfl);have HNN:=hid hn;have HCC:=hid hc;have HAA:=hid ha;have HDD:=hid hd;have HKR:=hid hkr;have HBASE:=hid hbase;have HKP:=hid hkp;clear hn hc ha hd hkr hbase hkp C4 hw4 RS3 B3 HP3 KP t2 t3 tl;go_wp2_with fail
 refine (want_any b tb cap tz st0 ⟨#[112,108,97,110]⟩ w4 HC4.out.ps).mono ?_;rw [show (⟨#[112,108,97,110]⟩:ByteArray).data.toList=wPlan from rfl];rintro e w5 ⟨rfl,q,g⟩;have HC5:=hid (HC4.out.call q g);clear q g;go_wp2_with fail
 refine (token_any b tb cap tz (wnt tz st0 wPlan) 1 (by decide) w5 HC5.out.ps).mono ?_;rw [←HNN.out];rintro e w6 ⟨rfl,q,g⟩;have C:=HC5.out.call q g;obtain ⟨x0,f0⟩:=C.cells 0 _ rfl;have lk:=C.box.lt;obtain ⟨nt,hnt⟩:∃s:ByteArray,s=⟨n.1.toArray⟩:=⟨_,rfl⟩;rw [←hnt];have HnT:=hid hnt;have HC:=hid (C.put (p':=⟨nt,⟨#[]⟩,⟨0,0,0⟩,⟨0,0,0⟩,[],[],[],LN,CL⟩) 0 (.string nt) rfl rfl rfl);clear q g C hnt;obtain ⟨w7,hw7⟩:∃W,W=w6.setCell ⟨kp,0,none⟩ (.string nt):=⟨_,rfl⟩;have HC7:Hid (Pn w w7 b tb cap tz kr kp base n.2 ⟨nt,⟨#[]⟩,⟨0,0,0⟩,⟨0,0,0⟩,[],[],[],LN,CL⟩ none 0 none 0 none 0 []):=hid (by rw [hw7];exact HC.out);clear HC;go_wp2_with fail
 rw [←hw7];clear hw7 x0 f0 lk;refine (want_any b tb cap tz n.2 ⟨#[99,117,114,114,101,110,99,121]⟩ w7 HC7.out.ps).mono ?_;rw [show (⟨#[99,117,114,114,101,110,99,121]⟩:ByteArray).data.toList=wCurrency from rfl];rintro e w8 ⟨rfl,q,g⟩;have HC8:=hid (HC7.out.call q g);clear q g;go_wp2_with fail
 refine (token_any b tb cap tz (wnt tz n.2 wCurrency) 1 (by decide) w8 HC8.out.ps).mono ?_;rw [←HCC.out];rintro e w9 ⟨rfl,q,g⟩;have C:=HC8.out.call q g;obtain ⟨x0,f0⟩:=C.cells 1 _ rfl;have lk:=C.box.lt;obtain ⟨ct,hct⟩:∃s:ByteArray,s=⟨c.1.toArray⟩:=⟨_,rfl⟩;rw [←hct];have HcT:=hid hct;have HC:=hid (C.put (p':=⟨nt,ct,⟨0,0,0⟩,⟨0,0,0⟩,[],[],[],LN,CL⟩) 1 (.string ct) rfl rfl rfl);clear q g C hct;obtain ⟨w10,hw10⟩:∃W,W=w9.setCell ⟨kp,1,none⟩ (.string ct):=⟨_,rfl⟩;have HC10:Hid (Pn w w10 b tb cap tz kr kp base c.2 ⟨nt,ct,⟨0,0,0⟩,⟨0,0,0⟩,[],[],[],LN,CL⟩ none 0 none 0 none 0 []):=hid (by rw [hw10];exact HC.out);clear HC;go_wp2_with fail
 rw [←hw10];clear hw10 x0 f0 lk;refine (want_any b tb cap tz c.2 ⟨#[59]⟩ w10 HC10.out.ps).mono ?_;rw [show (⟨#[59]⟩:ByteArray).data.toList=sSemi from rfl];rintro e w11 ⟨rfl,q,g⟩;have HC11:=hid (HC10.out.call q g);clear q g;go_wp2_with fail
 refine (want_any b tb cap tz (wnt tz c.2 sSemi) ⟨#[104,111,114,105,122,111,110]⟩ w11 HC11.out.ps).mono ?_;rw [show (⟨#[104,111,114,105,122,111,110]⟩:ByteArray).data.toList=wHorizon from rfl];rintro e w12 ⟨rfl,q,g⟩;have HC12:=hid (HC11.out.call q g);clear q g;go_wp2_with fail
 refine (day_any b tb cap tz (wnt tz (wnt tz c.2 sSemi) wHorizon) w12 HC12.out.ps).mono ?_;rw [←HAA.out];unfold dayV;rintro e w13 ⟨rfl,q,g⟩;have C:=HC12.out.call q g;obtain ⟨x0,f0⟩:=C.cells 2 _ rfl;obtain ⟨x1,f1⟩:=C.cells 3 _ rfl;obtain ⟨x2,f2⟩:=C.cells 4 _ rfl;have lk:=C.box.lt;have HC:=hid (((C.put (p':=⟨nt,ct,⟨a.1.y,0,0⟩,⟨0,0,0⟩,[],[],[],LN,CL⟩) 2 (.int .i64 a.1.y) rfl rfl rfl).put (p':=⟨nt,ct,⟨a.1.y,a.1.m,0⟩,⟨0,0,0⟩,[],[],[],LN,CL⟩) 3 (.int .i64 a.1.m) rfl rfl rfl).put (p':=⟨nt,ct,⟨a.1.y,a.1.m,a.1.d⟩,⟨0,0,0⟩,[],[],[],LN,CL⟩) 4 (.int .i64 a.1.d) rfl rfl rfl);clear q g C;obtain ⟨w14,hw14⟩:∃W,W=((w13.setCell ⟨kp,2,none⟩ (.int .i64 a.1.y)).setCell ⟨kp,3,none⟩ (.int .i64 a.1.m)).setCell ⟨kp,4,none⟩ (.int .i64 a.1.d):=⟨_,rfl⟩;have HC14:Hid (Pn w w14 b tb cap tz kr kp base a.2 ⟨nt,ct,⟨a.1.y,a.1.m,a.1.d⟩,⟨0,0,0⟩,[],[],[],LN,CL⟩ none 0 none 0 none 0 []):=hid (by rw [hw14];exact HC.out);clear HC;go_wp2_with fail
 rw [←hw14];clear hw14 x0 f0 x1 f1 x2 f2 lk;refine (day_any b tb cap tz a.2 w14 HC14.out.ps).mono ?_;rw [←HDD.out];unfold dayV;rintro e w15 ⟨rfl,q,g⟩;have C:=HC14.out.call q g;obtain ⟨x0,f0⟩:=C.cells 5 _ rfl;obtain ⟨x1,f1⟩:=C.cells 6 _ rfl;obtain ⟨x2,f2⟩:=C.cells 7 _ rfl;have lk:=C.box.lt;have HC:=hid (((C.put (p':=⟨nt,ct,a.1,⟨d.1.y,0,0⟩,[],[],[],LN,CL⟩) 5 (.int .i64 d.1.y) rfl rfl rfl).put (p':=⟨nt,ct,a.1,⟨d.1.y,d.1.m,0⟩,[],[],[],LN,CL⟩) 6 (.int .i64 d.1.m) rfl rfl rfl).put (p':=⟨nt,ct,a.1,⟨d.1.y,d.1.m,d.1.d⟩,[],[],[],LN,CL⟩) 7 (.int .i64 d.1.d) rfl rfl rfl);clear q g C;obtain ⟨w16,hw16⟩:∃W,W=((w15.setCell ⟨kp,5,none⟩ (.int .i64 d.1.y)).setCell ⟨kp,6,none⟩ (.int .i64 d.1.m)).setCell ⟨kp,7,none⟩ (.int .i64 d.1.d):=⟨_,rfl⟩;have HC16:Hid (Pn w w16 b tb cap tz kr kp base d.2 ⟨nt,ct,a.1,⟨d.1.y,d.1.m,d.1.d⟩,[],[],[],LN,CL⟩ none 0 none 0 none 0 []):=hid (by rw [hw16];exact HC.out);clear HC;go_wp2_with fail
 rw [←hw16];clear hw16 x0 f0 x1 f1 x2 f2 lk;refine (want_any b tb cap tz d.2 ⟨#[59]⟩ w16 HC16.out.ps).mono ?_;rw [show (⟨#[59]⟩:ByteArray).data.toList=sSemi from rfl];rintro e w17 ⟨rfl,q,g⟩;have HC17:=hid (HC16.out.call q g);clear q g;obtain ⟨σ0,hσ0⟩:∃σ0,σ0=wnt tz d.2 sSemi:=⟨_,rfl⟩;obtain ⟨P0,hP0⟩:∃P0:Plan,P0=⟨nt,ct,a.1,⟨d.1.y,d.1.m,d.1.d⟩,[],[],[],LN,CL⟩:=⟨_,rfl⟩;obtain ⟨R,hR⟩:∃R,R=itemsS tz tz.length σ0 P0:=⟨_,rfl⟩
 have HPL:Hid (PS=if R.2.err=0 then (R.1,0,0,0) else (planZ,R.2.err,R.2.ln,R.2.cl)):=hid (by
  rw [HPS.out];unfold planS;simp only
  rw [HH.out,hR,hσ0,hP0,HnT.out,HcT.out])
 have HC18:Hid (Pn w w17 b tb cap tz kr kp base σ0 P0 none 0 none 0 none 0 []):=hid (by rw [hσ0,hP0];exact HC17.out);have HR:=hid hR;have HCNT:=hid (show P0.meters.length+P0.fees.length+P0.charges.length≤σ0.i by rw [hP0];exact Nat.zero_le _);have l18:=HC18.out.ps.lt;clear HC4 HC5 HC7 HC8 HC10 HC11 HC12 HC14 HC16 HC17 HNN HCC HAA HDD HH hσ0 hP0 hR;clear HnT HcT SB S3 NTR HLN HCL;go_wp2_with fail
 go_loopw [] (fun wr=>∃(σ:St) (p:Plan) (ma:Option Addr) (mc:Nat) (fa:Option Addr) (fc:Nat) (ca:Option Addr) (cc:Nat) (hs:List Hd),Hid (Pn w wr b tb cap tz kr kp base σ p ma mc fa fc ca cc hs∧R=itemsS tz tz.length σ p∧p.meters.length+p.fees.length+p.charges.length≤σ.i)) (fun wr=>2*(tz.length-iOf wr b)+eOf wr b)
 case atStart=>exact ⟨σ0,P0,none,0,none,0,none,0,[],hid ⟨HC18.out,HR.out,HCNT.out⟩⟩
 case round=>
  obtain ⟨σ,p,ma,mc,fa,fc,ca,cc,hs,hst⟩:=hrel;clear HR HCNT HC18 l18 n0;have Q:=hst.out.1.ps;have i1:(0:Int)≤σ.i:=by omega
  have i2:(σ.i:Int)<tz.length:=by have:=Q.ok.lt;omega
  have hcn:tz.length≤8193:=FN.out.cnt;have lb:=Q.lt;have ltb:=Q.tl;obtain ⟨KK,hKK⟩:∃KK:Int,KK=((tk tz σ).k:Int):=⟨_,rfl⟩
  have hgo:goesOn tz σ=((σ.err==0)&&!(KK==0)):=by
   unfold goesOn;have e1:decide (σ.err=0)=(σ.err==0):=by rw [Bool.eq_iff_iff,decide_eq_true_eq,beq_iff_eq]
   have e2:decide ((tk tz σ).k=0)=(KK==0):=by rw [Bool.eq_iff_iff,decide_eq_true_eq,beq_iff_eq];omega
   rw [e1,e2]
  obtain ⟨a0,a1,a2,a3⟩:=Q.at;rw [←hKK] at a0;have k0:=cell_regrown Q.c0;have k1:=cell_regrown Q.c1;have k2:=cell_regrown Q.c2;have k3:=cell_regrown a0;have HGO:=hid hgo;have HQ:=hid Q;have HK:=hid hKK;clear Q a0 a1 a2 a3 hgo hKK;rcases Bool.eq_false_or_eq_true (σ.err==0) with h1|h1
  ·rcases Bool.eq_false_or_eq_true (KK==0) with h2|h2
   ·-- the end
    obtain rfl:KK=0:=by simpa using h2
    go_wp2_with fail
    refine wp_region_quiet_below (by kernel_rfl) (by kernel_rfl) ?_;repeat (go_big_quiet_step (fail))
    refine wpQuiet_nil ?_;intro _ hw';obtain ⟨⟨dq,osq⟩,hw''⟩:=hw';subst hw'';obtain ⟨wq,hwq⟩:∃wq,wq=grow (redrawn wr dq) osq:=⟨_,rfl⟩;have bq:Below wr.heap.size wr wq:=by rw [hwq];exact below_regrown wr dq osq
    rw [←hwq];have HP:=hid (hst.out.1.on bq);clear hwq k0 k1 k2 k3 bq lb ltb;have lbq:=HP.out.ps.lt;have z:σ.err=0:=by simpa using h1
    have RE:Hid (R=(p,σ)):=hid (by rw [hst.out.2.1];exact items_stop _ _ _ _ (by rw [HGO.out,h1];rfl));have PE:Hid (PS=(p,0,0,0)):=hid (by rw [HPL.out,RE.out];simp only;rw [if_pos z]);have c2:=HP.out.ps.c2;rw [z] at c2;have rx:Hid (wq.rangeAt kp 0 [p.name,p.cur,p.a.y,p.a.m,p.a.d,p.b.y,p.b.m,p.b.d,.slice ma p.meters.length mc,.slice fa p.fees.length fc,.slice ca p.charges.length cc,p.line,p.col]):=hid (range_of HP.out.box.cell);have rz:Hid (wq.there kr 0 13):=hid (there_of HP.out.res.cell HP.out.res.free (n:=13) rfl);clear h1 h2 z;go_upto_region 37 with fail
    clear c2 lbq
    go_wp2_with (first
     | (with_reducible refine wpList_load_mid (op:=Oper.mk (some 176) (Op.load 45 (Operand.tmp 11)) _ _ _ _) ?_ 45 (.tmp 11) ?_ kp 0 ?_ [p.name,p.cur,p.a.y,p.a.m,p.a.d,p.b.y,p.b.m,p.b.d,.slice ma p.meters.length mc,.slice fa p.fees.length fc,.slice ca p.charges.length cc,p.line,p.col] _ rx.out Tryz.underlying45 ?_ ?_ ?_;rfl;rfl;go_simp;rfl;kernel_rfl)
     | (with_reducible refine wpList_store_mid (op:=Oper.mk none (Op.store 45 (Operand.tmp 2) (Operand.tmp 176)) _ _ _ _) ?_ 45 (.tmp 2) (.tmp 176) ?_ kr 0 #[p.name,p.cur,p.a.y,p.a.m,p.a.d,p.b.y,p.b.m,p.b.d,.slice ma p.meters.length mc,.slice fa p.fees.length fc,.slice ca p.charges.length cc,p.line,p.col] ?_ ?_ ?_ ?_ ?_ ?_;rfl;rfl;go_simp;go_simp;(simpa using rz.out);kernel_rfl;(simp [Value.oneCell']))
     | fail)
    have rr:(wq.setCells kr 0 [p.name,p.cur,p.a.y,p.a.m,p.a.d,p.b.y,p.b.m,p.b.d,.slice ma p.meters.length mc,.slice fa p.fees.length fc,.slice ca p.charges.length cc,p.line,p.col]).rangeAt kr 0 [p.name,p.cur,p.a.y,p.a.m,p.a.d,p.b.y,p.b.m,p.b.d,.slice ma p.meters.length mc,.slice fa p.fees.length fc,.slice ca p.charges.length cc,p.line,p.col]:=World.rangeAt_setCells_same _ _ _ _ rz.out;refine bodyPost_ret (v:=.tuple #[.agg #[p.name,p.cur,p.a.y,p.a.m,p.a.d,p.b.y,p.b.m,p.b.d,.slice ma p.meters.length mc,.slice fa p.fees.length fc,.slice ca p.charges.length cc,p.line,p.col],.int .i64 0,.int .i64 0,.int .i64 0]) ?_ rfl ?_
    ·refine results_plan (p:=2) (a:=3) (b:=4) (c:=5) ?_ _ _ kr [p.name,p.cur,p.a.y,p.a.m,p.a.d,p.b.y,p.b.m,p.b.d,.slice ma p.meters.length mc,.slice fa p.fees.length fc,.slice ca p.charges.length cc,p.line,p.col] _ ?_ rr Tryz.underlying45 ?_ ?_
     ·rfl
     ·rfl
     ·rfl
     ·kernel_rfl
    have hkr:=HKR.out;have hlr:=HP.out.lr;exact ⟨ma,mc,fa,fc,ca,cc,hs,by rw [PE.out];rfl,by rw [PE.out];exact HP.out.hl,by rw [PE.out];exact ⟨fun s r hs=>(owns_setCells_below hlr _ _ _ (HP.out.owns.own s r hs)).mono (by omega),HP.out.owns.apart⟩,below_setCells (by omega) _ _ _ HP.out.bel⟩
   ·-- an item
    have h3:¬ KK=0:=by simpa using h2
    go_wp2_with fail
    refine wp_region_quiet_below (by kernel_rfl) (by kernel_rfl) ?_;repeat (go_big_quiet_step (fail))
    refine wpQuiet_nil ?_;intro _ hw';obtain ⟨⟨dq,osq⟩,hw''⟩:=hw';subst hw'';obtain ⟨wq,hwq⟩:∃wq,wq=grow (redrawn wr dq) osq:=⟨_,rfl⟩;have bq:Below wr.heap.size wr wq:=by rw [hwq];exact below_regrown wr dq osq
    rw [←hwq];have HP:=hid (hst.out.1.on bq);clear hwq k0 k1 k2 k3 bq lb ltb;have lbq:=HP.out.ps.lt;have HLT:=hid (show σ.i<tz.length from HP.out.ps.ok.lt);have GOT:Hid (goesOn tz σ=true):=hid (by rw [HGO.out,h1,h2];rfl);have ST:=hid (items_step (p:=p) HP.out.ps.ok GOT.out);have NX:=hid (item_next tz σ p GOT.out);have RI:=hid (hst.out.2.1.trans ST.out);have CN:=hid hst.out.2.2;have z:σ.err=0:=by simpa using h1
    have ZE:=hid z;have c0:=HP.out.ps.c0;have c1:=HP.out.ps.c1;have ltq:=HP.out.ps.tl;obtain ⟨a0,a1,a2,a3⟩:=HP.out.ps.at;obtain ⟨TT,hTT⟩:∃TT:ByteArray,TT=⟨(tk tz σ).t.toArray⟩:=⟨_,rfl⟩;obtain ⟨tl,htl⟩:∃tl:Int,tl=((tk tz σ).ln:Int):=⟨_,rfl⟩;obtain ⟨tc,htc⟩:∃tc:Int,tc=((tk tz σ).cl:Int):=⟨_,rfl⟩;rw [←HK.out] at a0;rw [←hTT] at a1;rw [←htl] at a2;rw [←htc] at a3
    have KP:Hid (∀w',Below wq.heap.size wq w'→w'.cell? ⟨b,0,none⟩=some (.slice (some ⟨tb,0,none⟩) tz.length cap)∧w'.cell? ⟨b,1,none⟩=some (.int .i64 σ.i)∧w'.cell? ⟨tb,σ.i*4,none⟩=some (.int .i64 KK)∧w'.cell? ⟨tb,σ.i*4+1,none⟩=some (.string TT)∧w'.cell? ⟨tb,σ.i*4+2,none⟩=some (.int .i64 tl)∧w'.cell? ⟨tb,σ.i*4+3,none⟩=some (.int .i64 tc)∧Below wq.heap.size wq w'):=hid fun w' h=>
     ⟨by rw [h.cell lbq];exact c0,by rw [h.cell lbq];exact c1,by rw [h.cell ltq];exact a0,by rw [h.cell ltq];exact a1,by rw [h.cell ltq];exact a2,by rw [h.cell ltq];exact a3,h⟩
    have HTL:=hid htl;have HTC:=hid htc;clear hTT htl htc;go_upto_region 16 with fail
    clear h1 h2 h3 z
    go_region_held3 (fun w'=>w'.cell? ⟨b,0,none⟩=some (.slice (some ⟨tb,0,none⟩) tz.length cap)∧w'.cell? ⟨b,1,none⟩=some (.int .i64 σ.i)∧w'.cell? ⟨tb,σ.i*4,none⟩=some (.int .i64 KK)∧w'.cell? ⟨tb,σ.i*4+1,none⟩=some (.string TT)∧w'.cell? ⟨tb,σ.i*4+2,none⟩=some (.int .i64 tl)∧w'.cell? ⟨tb,σ.i*4+3,none⟩=some (.int .i64 tc)∧Below wq.heap.size wq w')
     ((refine KP.out _ ?_;repeat (first|assumption|exact Below.refl _ _|(refine Below.drew ?_)|(refine alloc_on ?_ _)|(refine Below.setCell ?_ (by first|omega|(simp<;>omega)) _))))
     (fail)
    obtain ⟨wt,hwt⟩:∃wt,wt=(wq.alloc (.cells #[.int .i64 KK,.string TT,.int .i64 tl,.int .i64 tc] 74)).drew:=⟨_,rfl⟩;rw [←hwt];have bt:Below wq.heap.size wq wt:=by rw [hwt];exact (bel_alloc _ _).drew
    obtain ⟨kt,hkt⟩:∃kt,kt=wq.heap.size:=⟨_,rfl⟩;rw [←hkt];have BT:Bx wt kt [.int .i64 KK,.string TT,.int .i64 tl,.int .i64 tc]:=by rw [hwt,hkt];exact (Bx.new _ _ _).on ((Below.refl _ _).drew)
    have HPT:=hid (HP.out.on bt);have HBT:=hid BT;have KTB:=hid (show base≤kt by rw [hkt];exact HP.out.bsz);clear hwt bt hkt BT c0 c1 a0 a1 a2 a3 lbq ltq KP HP;go_wp2_with fail
    obtain ⟨wu,hwu⟩:∃wu,wu=wt.alloc (.cells (wordCellsOf itemWords) 9):=⟨_,rfl⟩;have bu:Below wt.heap.size wt wu:=by rw [hwu];exact bel_alloc _ _
    have lu:wt.heap.size<wu.heap.size:=by rw [hwu];simp
    have cO:=one_any b tb cap tz σ wt.heap.size 3 itemWords wu (HPT.out.on bu).ps lu (by have:=HPT.out.ps.lt;omega) (by rw [hwu];exact words_new wt itemWords _) (by decide);rw [show itemWords.length=3 from rfl] at cO;have HWU:Hid (wt.alloc (.cells #[.string ⟨#[109,101,116,101,114]⟩,.string ⟨#[102,101,101]⟩,.string ⟨#[99,104,97,114,103,101]⟩] 9)=wu):=hid hwu.symm;rw [HWU.out];refine cO.mono ?_;rintro e wv ⟨rfl,qv,gv⟩;have HPV:=hid ((HPT.out.on bu).call qv gv);have HBV:=hid ((HBT.out.on bu).grown gv (fun e=>by have:=Option.some.inj e;have:=KTB.out;have:=HPT.out.lb;omega));obtain ⟨r,hr⟩:∃r,r=oneS tz σ itemWords:=⟨_,rfl⟩;rw [←hr] at HPV ⊢;have HRR:=hid hr;obtain ⟨k,hk⟩:∃k,k=r.1:=⟨_,rfl⟩;rw [←hk];have HKK:=hid hk;clear hwu bu lu cO qv gv hr hk;have SM:=hid (show p.meters.length≤100000∧p.fees.length≤100000∧p.charges.length≤100000 by have h1:=hst.out.2.2;have h2:=HLT.out;have h3:=FN.out.cnt;omega);by_cases e0:k=0
    ·subst e0;obtain ⟨nm,hnm⟩:∃x,x=tkn tz r.2 1:=⟨_,rfl⟩;obtain ⟨s2,hs2⟩:∃x,x=wnt tz nm.2 wUnit:=⟨_,rfl⟩;obtain ⟨un,hun⟩:∃x,x=tkn tz s2 1:=⟨_,rfl⟩;obtain ⟨s3,hs3⟩:∃x,x=wnt tz un.2 wMax:=⟨_,rfl⟩;obtain ⟨nn,hnn⟩:∃x,x=numS tz s3 0 2000:=⟨_,rfl⟩;obtain ⟨s4,hs4⟩:∃x,x=wnt tz nn.2 sSemi:=⟨_,rfl⟩;obtain ⟨nmb,hnmb⟩:∃x:ByteArray,x=⟨nm.1.toArray⟩:=⟨_,rfl⟩;obtain ⟨unb,hunb⟩:∃x:ByteArray,x=⟨un.1.toArray⟩:=⟨_,rfl⟩;have hit:Hid (itemS tz σ p=({ p with meters:=p.meters++[⟨nmb,unb,nn.1,tl,tc⟩] },s4)):=hid (by unfold itemS;simp only;rw [←HRR.out,←HKK.out,if_pos rfl,hs4,hnn,hs3,hunb,hun,hs2,hnmb,hnm,HTL.out,HTC.out];rfl);have LESS:=hid (item_less p (show Ok tz σ from ⟨FN.out.toks,HLT.out⟩) GOT.out);have CT:=hid (item_cnt7 CN.out GOT.out);have Hnm:=hid hnm;have Hs2:=hid hs2;have Hun:=hid hun;have Hs3:=hid hs3;have Hnn:=hid hnn;have Hs4:=hid hs4;have Hnmb:=hid hnmb;have Hunb:=hid hunb;clear hnm hs2 hun hs3 hnn hs4 hnmb hunb;have t2:=HBV.out.cell 2 _ rfl;have t3:=HBV.out.cell 3 _ rfl;have lkt:=HBV.out.lt;have nkt:some kt≠some b:=fun e=>by have:=Option.some.inj e;have:=KTB.out;have:=HPV.out.lb;omega
     have KG:Hid (∀w',wv.grownBy w' (some b)→w'.cell? ⟨kt,2,none⟩=some (.int .i64 tl)∧w'.cell? ⟨kt,3,none⟩=some (.int .i64 tc)∧wv.grownBy w' (some b)):=hid fun w' g=>⟨(World.cell?_of_block (g.block kt lkt nkt)).trans t2,(World.cell?_of_block (g.block kt lkt nkt)).trans t3,g⟩;clear lkt nkt;go_upto_region 21 with fail
     go_region_held3 (fun w'=>w'.cell? ⟨kt,2,none⟩=some (.int .i64 tl)∧w'.cell? ⟨kt,3,none⟩=some (.int .i64 tc)∧wv.grownBy w' (some b))
      ((refine KG.out _ ?_;repeat (first|(with_reducible assumption)|(with_reducible exact grown_refl _ _)|(with_reducible refine grown_put ?_ (by first|exact Nat.le_refl _|exact SZ21) _ _)|(with_reducible refine grown_drew ?_)|(with_reducible refine grown_alloc ?_ _))))
      ((go_at_call 23
        refine (token_any b tb cap tz r.2 1 (by decide) _ (HPV.out.on (by repeat (first|exact Below.refl _ _|(refine Below.drew ?_)|(refine alloc_on ?_ _)))).ps).mono ?_;rw [←Hnm.out,←Hnmb.out];rintro e w21 ⟨rfl,q21,g21⟩;have G21:wv.grownBy w21 (some b):=grown_trans (by repeat (first|exact grown_refl _ _|(refine grown_drew ?_)|(refine grown_alloc ?_ _))) g21;have SZ21:=G21.size
        first
         | (have g22:((wv.alloc (.cells #[.string ⟨#[]⟩,.string ⟨#[]⟩,.int .i64 0,.int .i64 0,.int .i64 0] 39)).drew).grownBy w21 (some b):=by with_reducible exact g21
            have BB:Hid (Bt w w21 b tb cap tz kr kp base nm.2 p ma mc fa fc ca cc hs wv.heap.size [.string ⟨#[]⟩,.string ⟨#[]⟩,.int .i64 0,.int .i64 0,.int .i64 0]):=hid (Bt.call (Bt.on (Bt.new HPV.out [.string ⟨#[]⟩,.string ⟨#[]⟩,.int .i64 0,.int .i64 0,.int .i64 0] 39) ((Below.refl _ _).drew)) q21 g22);have n0:=BB.out.bx.cell 0 _ rfl;have g0:=BB.out.bx.free 0;have n1:=BB.out.bx.cell 1 _ rfl;have g1:=BB.out.bx.free 1;have n2:=BB.out.bx.cell 2 _ rfl;have g2:=BB.out.bx.free 2;have n3:=BB.out.bx.cell 3 _ rfl;have g3:=BB.out.bx.free 3;have n4:=BB.out.bx.cell 4 _ rfl;have g4:=BB.out.bx.free 4
            have lnb:=BB.out.bx.lt)
         | (have BB:=hid (Bt.new (HPV.out.call q21 G21) [.string nmb,.string ⟨#[]⟩,.int .i64 0,.int .i64 tl,.int .i64 tc] 39))))
     all_goals
      first
       | (obtain ⟨wk0,hwk⟩:∃W,W=w21.alloc (.cells #[.string nmb,.string ⟨#[]⟩,.int .i64 0,.int .i64 tl,.int .i64 tc] 39):=⟨_,rfl⟩
          obtain ⟨km,hkm⟩:∃k,k=w21.heap.size:=⟨_,rfl⟩;rw [←hwk,←hkm];have K0:Hid (Bt w wk0 b tb cap tz kr kp base nm.2 p ma mc fa fc ca cc hs km [.string nmb,.string ⟨#[]⟩,.int .i64 0,.int .i64 tl,.int .i64 tc]):=hid (by rw [hwk,hkm];exact BB.out)
          clear hwk hkm BB)
       | (obtain ⟨wk0,hwk⟩:∃W,W=(((((w21.setCell ⟨wv.heap.size,0,none⟩ (.string nmb)).setCell ⟨wv.heap.size,1,none⟩ (.string ⟨#[]⟩)).setCell ⟨wv.heap.size,2,none⟩ (.int .i64 0)).setCell ⟨wv.heap.size,3,none⟩ (.int .i64 tl)).setCell ⟨wv.heap.size,4,none⟩ (.int .i64 tc)):=⟨_,rfl⟩
          obtain ⟨km,hkm⟩:∃k,k=wv.heap.size:=⟨_,rfl⟩;rw [←hwk,←hkm];have K0:Hid (Bt w wk0 b tb cap tz kr kp base nm.2 p ma mc fa fc ca cc hs km [.string nmb,.string ⟨#[]⟩,.int .i64 0,.int .i64 tl,.int .i64 tc]):=hid (by rw [hwk,hkm];exact (((((BB.out.put 0 (.string nmb)).put 1 (.string ⟨#[]⟩)).put 2 (.int .i64 0)).put 3 (.int .i64 tl)).put 4 (.int .i64 tc)))
          clear hwk hkm BB n0 g0 n1 g1 n2 g2 n3 g3 n4 g4 lnb)
      clear KG SZ21 G21 t2 t3;have c:=want_any b tb cap tz nm.2 ⟨#[117,110,105,116]⟩ wk0 K0.out.pn.ps;rw [show (⟨#[117,110,105,116]⟩:ByteArray).data.toList=wUnit from rfl,←Hs2.out] at c;go_wp2_with fail
      refine c.mono ?_;rintro e wk1 ⟨rfl,q,g⟩;have K1:=hid (K0.out.call q g);clear c q g K0;have c:=token_any b tb cap tz s2 1 (by decide) wk1 K1.out.pn.ps;rw [←Hun.out,←Hunb.out] at c;go_wp2_with fail
      refine c.mono ?_;rintro e wk2 ⟨rfl,q,g⟩;have C:=K1.out.call q g;have d0:=C.bx.cell 1 _ rfl;have f0:=C.bx.free 1;have lk:=C.bx.lt;obtain ⟨wk3,hwk3⟩:∃W,W=(wk2.setCell ⟨km,1,none⟩ (.string unb)):=⟨_,rfl⟩;have K3:Hid (Bt w wk3 b tb cap tz kr kp base un.2 p ma mc fa fc ca cc hs km [.string nmb,.string unb,.int .i64 0,.int .i64 tl,.int .i64 tc]):=hid (by rw [hwk3];exact (C.put 1 _));have Hwk3:=hid hwk3;clear c q g C hwk3 K1;have c:=want_any b tb cap tz un.2 ⟨#[109,97,120]⟩ wk3 K3.out.pn.ps;rw [show (⟨#[109,97,120]⟩:ByteArray).data.toList=wMax from rfl,←Hs3.out] at c;go_wp2_with fail
      rw [←Hwk3.out];clear d0 f0 lk;refine c.mono ?_;rintro e wk4 ⟨rfl,q,g⟩;have K4:=hid (K3.out.call q g);clear c q g K3;have c:=number_any b tb cap tz s3 0 2000 wk4 K4.out.pn.ps;rw [←Hnn.out] at c;go_wp2_with fail
      refine c.mono ?_;rintro e wk5 ⟨rfl,q,g⟩;have C:=K4.out.call q g;have d0:=C.bx.cell 2 _ rfl;have f0:=C.bx.free 2;have lk:=C.bx.lt;obtain ⟨wk6,hwk6⟩:∃W,W=(wk5.setCell ⟨km,2,none⟩ (.int .i64 nn.1)):=⟨_,rfl⟩;have K6:Hid (Bt w wk6 b tb cap tz kr kp base nn.2 p ma mc fa fc ca cc hs km [.string nmb,.string unb,.int .i64 nn.1,.int .i64 tl,.int .i64 tc]):=hid (by rw [hwk6];exact (C.put 2 _));have Hwk6:=hid hwk6;clear c q g C hwk6 K4;have c:=want_any b tb cap tz nn.2 ⟨#[59]⟩ wk6 K6.out.pn.ps;rw [show (⟨#[59]⟩:ByteArray).data.toList=sSemi from rfl,←Hs4.out] at c;go_wp2_with fail
      rw [←Hwk6.out];clear d0 f0 lk;refine c.mono ?_;rintro e wk7 ⟨rfl,q,g⟩;have K7:=hid (K6.out.call q g);clear c q g K6;have pp:=K7.out.pn.box.cell 8 _ rfl;have y0:=K7.out.bx.cell 0 _ rfl;have y1:=K7.out.bx.cell 1 _ rfl;have y2:=K7.out.bx.cell 2 _ rfl;have y3:=K7.out.bx.cell 3 _ rfl;have y4:=K7.out.bx.cell 4 _ rfl;have lkp:=K7.out.pn.box.lt;have PX:=hid (K7.out.pn.on (bel_alloc wk7 (.cells #[.string nmb,.string unb,.int .i64 nn.1,.int .i64 tl,.int .i64 tc] 39)));have hsm:p.meters.length+1≤1000000:=by have:=SM.out;omega
      go_upto_region 27 with fail
      go_wp2_with (at_builtin;refine wpList_more7 [.string nmb,.string unb,.int .i64 nn.1,.int .i64 tl,.int .i64 tc] rfl _ _ 22 39 _ 5 56 rfl Tryz.underlying22 info_meter7 rfl (by decide) _ _ _ rfl (K7.out.pn.owns.own .m _ rfl) rfl (by simp [Value.oneCell']) rfl hsm (by decide) K7.out.pn.bsz ?_)
      intro v7 w7 hown hgrow hat;obtain ⟨a7,c7,rfl⟩:=slice_form hown;have Z7:=PX.out.box.grown hgrow (PX.out.ne (σ:=.m) rfl PX.out.lp);have z8:=Z7.cell 8 _ rfl;have f8:=Z7.free 8;have lz:=Z7.lt;have P7:=hid (PX.out.meter (x:=⟨nmb,unb,nn.1,tl,tc⟩) hgrow hown hat (by simp));clear hown hgrow hat Z7 pp y0 y1 y2 y3 y4 lkp;go_wp2;go_roundw
      case rel=>
       have hc:=CT.out;rw [hit.out] at hc;exact ⟨_,_,_,_,fa,fc,ca,cc,hs,hid ⟨P7.out,by rw [RI.out,hit.out],hc⟩⟩
      case measure=>
       have hl:=LESS.out.1;rw [hit.out] at hl;rw [iOf_ps P7.out.ps,eOf_ps P7.out.ps,iOf_ps hst.out.1.ps,eOf_ps hst.out.1.ps];exact hl
    ·by_cases e1:k=1
     ·subst e1;obtain ⟨nn,hnn⟩:∃x,x=numS tz r.2 0 1000000000000:=⟨_,rfl⟩;obtain ⟨wn,hwn⟩:∃x,x=winS tz nn.2:=⟨_,rfl⟩;obtain ⟨s4,hs4⟩:∃x,x=wnt tz wn.2 sSemi:=⟨_,rfl⟩;obtain ⟨x,hx⟩:∃x,x=wn.1:=⟨_,rfl⟩;have hit:Hid (itemS tz σ p=({ p with fees:=p.fees++[⟨nn.1,x,tl,tc⟩] },s4)):=hid (by unfold itemS;simp only;rw [←HRR.out,←HKK.out,if_neg (show ¬ (1:Int)=0 by decide),if_pos rfl,hs4,hx,hwn,hnn,HTL.out,HTC.out];rfl);have LESS:=hid (item_less p (show Ok tz σ from ⟨FN.out.toks,HLT.out⟩) GOT.out);have CT:=hid (item_cnt7 CN.out GOT.out);have Hnn:=hid hnn;have Hwn:=hid hwn;have Hs4:=hid hs4;have Hx:=hid hx;clear hnn hwn hs4 hx;have t2:=HBV.out.cell 2 _ rfl;have t3:=HBV.out.cell 3 _ rfl;have lkt:=HBV.out.lt;have nkt:some kt≠some b:=fun e=>by have:=Option.some.inj e;have:=KTB.out;have:=HPV.out.lb;omega
      have KG:Hid (∀w',wv.grownBy w' (some b)→w'.cell? ⟨kt,2,none⟩=some (.int .i64 tl)∧w'.cell? ⟨kt,3,none⟩=some (.int .i64 tc)∧wv.grownBy w' (some b)):=hid fun w' g=>⟨(World.cell?_of_block (g.block kt lkt nkt)).trans t2,(World.cell?_of_block (g.block kt lkt nkt)).trans t3,g⟩;clear lkt nkt;go_upto_region 29 with fail
      go_region_held3 (fun w'=>w'.cell? ⟨kt,2,none⟩=some (.int .i64 tl)∧w'.cell? ⟨kt,3,none⟩=some (.int .i64 tc)∧wv.grownBy w' (some b))
       ((refine KG.out _ ?_;repeat (first|(with_reducible assumption)|(with_reducible exact grown_refl _ _)|(with_reducible refine grown_put ?_ (by first|exact Nat.le_refl _|exact SZ21) _ _)|(with_reducible refine grown_drew ?_)|(with_reducible refine grown_alloc ?_ _))))
       ((go_at_call 26
         refine (number_any b tb cap tz r.2 0 1000000000000 _ (HPV.out.on (by repeat (first|exact Below.refl _ _|(refine Below.drew ?_)|(refine alloc_on ?_ _)))).ps).mono ?_;rw [←Hnn.out];rintro e w21 ⟨rfl,q21,g21⟩;have G21:wv.grownBy w21 (some b):=grown_trans (by repeat (first|exact grown_refl _ _|(refine grown_drew ?_)|(refine grown_alloc ?_ _))) g21;have SZ21:=G21.size
         first
          | (have g22:((wv.alloc (.cells #[.int .i64 0,.bool false,.int .i64 0,.int .i64 0,.int .i64 0,.int .i64 0,.int .i64 0,.int .i64 0,.int .i64 0,.int .i64 0] 84)).drew).grownBy w21 (some b):=by with_reducible exact g21
             have BB:Hid (Bt w w21 b tb cap tz kr kp base nn.2 p ma mc fa fc ca cc hs wv.heap.size [.int .i64 0,.bool false,.int .i64 0,.int .i64 0,.int .i64 0,.int .i64 0,.int .i64 0,.int .i64 0,.int .i64 0,.int .i64 0]):=hid (Bt.call (Bt.on (Bt.new HPV.out [.int .i64 0,.bool false,.int .i64 0,.int .i64 0,.int .i64 0,.int .i64 0,.int .i64 0,.int .i64 0,.int .i64 0,.int .i64 0] 84) ((Below.refl _ _).drew)) q21 g22);have n0:=BB.out.bx.cell 0 _ rfl;have g0:=BB.out.bx.free 0;have n1:=BB.out.bx.cell 1 _ rfl;have g1:=BB.out.bx.free 1;have n2:=BB.out.bx.cell 2 _ rfl;have g2:=BB.out.bx.free 2;have n3:=BB.out.bx.cell 3 _ rfl;have g3:=BB.out.bx.free 3;have n4:=BB.out.bx.cell 4 _ rfl;have g4:=BB.out.bx.free 4;have n5:=BB.out.bx.cell 5 _ rfl;have g5:=BB.out.bx.free 5;have n6:=BB.out.bx.cell 6 _ rfl;have g6:=BB.out.bx.free 6;have n7:=BB.out.bx.cell 7 _ rfl;have g7:=BB.out.bx.free 7;have n8:=BB.out.bx.cell 8 _ rfl;have g8:=BB.out.bx.free 8;have n9:=BB.out.bx.cell 9 _ rfl;have g9:=BB.out.bx.free 9
             have lnb:=BB.out.bx.lt)
          | (have BB:=hid (Bt.new (HPV.out.call q21 G21) [.int .i64 nn.1,.bool false,.int .i64 0,.int .i64 0,.int .i64 0,.int .i64 0,.int .i64 0,.int .i64 0,.int .i64 tl,.int .i64 tc] 84))))
      all_goals
       first
        | (obtain ⟨wk0,hwk⟩:∃W,W=w21.alloc (.cells #[.int .i64 nn.1,.bool false,.int .i64 0,.int .i64 0,.int .i64 0,.int .i64 0,.int .i64 0,.int .i64 0,.int .i64 tl,.int .i64 tc] 84):=⟨_,rfl⟩
           obtain ⟨km,hkm⟩:∃k,k=w21.heap.size:=⟨_,rfl⟩;rw [←hwk,←hkm];have K0:Hid (Bt w wk0 b tb cap tz kr kp base nn.2 p ma mc fa fc ca cc hs km [.int .i64 nn.1,.bool false,.int .i64 0,.int .i64 0,.int .i64 0,.int .i64 0,.int .i64 0,.int .i64 0,.int .i64 tl,.int .i64 tc]):=hid (by rw [hwk,hkm];exact BB.out)
           clear hwk hkm BB)
        | (obtain ⟨wk0,hwk⟩:∃W,W=((((((((((w21.setCell ⟨wv.heap.size,0,none⟩ (.int .i64 nn.1)).setCell ⟨wv.heap.size,1,none⟩ (.bool false)).setCell ⟨wv.heap.size,2,none⟩ (.int .i64 0)).setCell ⟨wv.heap.size,3,none⟩ (.int .i64 0)).setCell ⟨wv.heap.size,4,none⟩ (.int .i64 0)).setCell ⟨wv.heap.size,5,none⟩ (.int .i64 0)).setCell ⟨wv.heap.size,6,none⟩ (.int .i64 0)).setCell ⟨wv.heap.size,7,none⟩ (.int .i64 0)).setCell ⟨wv.heap.size,8,none⟩ (.int .i64 tl)).setCell ⟨wv.heap.size,9,none⟩ (.int .i64 tc)):=⟨_,rfl⟩
           obtain ⟨km,hkm⟩:∃k,k=wv.heap.size:=⟨_,rfl⟩;rw [←hwk,←hkm];have K0:Hid (Bt w wk0 b tb cap tz kr kp base nn.2 p ma mc fa fc ca cc hs km [.int .i64 nn.1,.bool false,.int .i64 0,.int .i64 0,.int .i64 0,.int .i64 0,.int .i64 0,.int .i64 0,.int .i64 tl,.int .i64 tc]):=hid (by rw [hwk,hkm];exact ((((((((((BB.out.put 0 (.int .i64 nn.1)).put 1 (.bool false)).put 2 (.int .i64 0)).put 3 (.int .i64 0)).put 4 (.int .i64 0)).put 5 (.int .i64 0)).put 6 (.int .i64 0)).put 7 (.int .i64 0)).put 8 (.int .i64 tl)).put 9 (.int .i64 tc)))
           clear hwk hkm BB n0 g0 n1 g1 n2 g2 n3 g3 n4 g4 n5 g5 n6 g6 n7 g7 n8 g8 n9 g9 lnb)
       clear KG SZ21 G21 t2 t3;have c:=window_any b tb cap tz nn.2 wk0 K0.out.pn.ps;rw [←Hwn.out,←Hx.out,winV] at c;go_wp2_with fail
       refine c.mono ?_;rintro e wk1 ⟨rfl,q,g⟩;have C:=K0.out.call q g;have d0:=C.bx.cell 1 _ rfl;have f0:=C.bx.free 1;have d1:=C.bx.cell 2 _ rfl;have f1:=C.bx.free 2;have d2:=C.bx.cell 3 _ rfl;have f2:=C.bx.free 3;have d3:=C.bx.cell 4 _ rfl;have f3:=C.bx.free 4;have d4:=C.bx.cell 5 _ rfl;have f4:=C.bx.free 5;have d5:=C.bx.cell 6 _ rfl;have f5:=C.bx.free 6;have d6:=C.bx.cell 7 _ rfl;have f6:=C.bx.free 7;have lk:=C.bx.lt;obtain ⟨wk2,hwk2⟩:∃W,W=(((((((wk1.setCell ⟨km,1,none⟩ (.bool x.has)).setCell ⟨km,2,none⟩ (.int .i64 x.a.y)).setCell ⟨km,3,none⟩ (.int .i64 x.a.m)).setCell ⟨km,4,none⟩ (.int .i64 x.a.d)).setCell ⟨km,5,none⟩ (.int .i64 x.b.y)).setCell ⟨km,6,none⟩ (.int .i64 x.b.m)).setCell ⟨km,7,none⟩ (.int .i64 x.b.d)):=⟨_,rfl⟩;have K2:Hid (Bt w wk2 b tb cap tz kr kp base wn.2 p ma mc fa fc ca cc hs km [.int .i64 nn.1,x.has,x.a.y,x.a.m,x.a.d,x.b.y,x.b.m,x.b.d,.int .i64 tl,.int .i64 tc]):=hid (by rw [hwk2];exact (((((((C.put 1 _).put 2 _).put 3 _).put 4 _).put 5 _).put 6 _).put 7 _));have Hwk2:=hid hwk2;clear c q g C hwk2 K0;have c:=want_any b tb cap tz wn.2 ⟨#[59]⟩ wk2 K2.out.pn.ps;rw [show (⟨#[59]⟩:ByteArray).data.toList=sSemi from rfl,←Hs4.out] at c;go_wp2_with fail
       rw [←Hwk2.out];clear d0 f0 d1 f1 d2 f2 d3 f3 d4 f4 d5 f5 d6 f6 lk;refine c.mono ?_;rintro e wk3 ⟨rfl,q,g⟩;have K3:=hid (K2.out.call q g);clear c q g K2;have pp:=K3.out.pn.box.cell 9 _ rfl;have y0:=K3.out.bx.cell 0 _ rfl;have y1:=K3.out.bx.cell 1 _ rfl;have y2:=K3.out.bx.cell 2 _ rfl;have y3:=K3.out.bx.cell 3 _ rfl;have y4:=K3.out.bx.cell 4 _ rfl;have y5:=K3.out.bx.cell 5 _ rfl;have y6:=K3.out.bx.cell 6 _ rfl;have y7:=K3.out.bx.cell 7 _ rfl;have y8:=K3.out.bx.cell 8 _ rfl;have y9:=K3.out.bx.cell 9 _ rfl;have lkp:=K3.out.pn.box.lt;have PX:=hid (K3.out.pn.on (bel_alloc wk3 (.cells #[.int .i64 nn.1,x.has,x.a.y,x.a.m,x.a.d,x.b.y,x.b.m,x.b.d,.int .i64 tl,.int .i64 tc] 84)));have hsm:p.fees.length+1≤1000000:=by have:=SM.out;omega
       go_upto_region 32 with fail
       go_wp2_with (at_builtin;refine wpList_more7 [.int .i64 nn.1,x.has,x.a.y,x.a.m,x.a.d,x.b.y,x.b.m,x.b.d,.int .i64 tl,.int .i64 tc] rfl _ _ 42 84 _ 10 80 rfl Tryz.underlying42 info_fee7 rfl (by decide) _ _ _ rfl (K3.out.pn.owns.own .f _ rfl) rfl (by simp [Value.oneCell']) rfl hsm (by decide) K3.out.pn.bsz ?_)
       intro v7 w7 hown hgrow hat;obtain ⟨a7,c7,rfl⟩:=slice_form hown;have Z7:=PX.out.box.grown hgrow (PX.out.ne (σ:=.f) rfl PX.out.lp);have z8:=Z7.cell 9 _ rfl;have f8:=Z7.free 9;have lz:=Z7.lt;have P7:=hid (PX.out.fee (x:=⟨nn.1,x,tl,tc⟩) hgrow hown hat (by simp));clear hown hgrow hat Z7 pp y0 y1 y2 y3 y4 y5 y6 y7 y8 y9 lkp;go_wp2;go_roundw
       case rel=>
        have hc:=CT.out;rw [hit.out] at hc;exact ⟨_,_,ma,mc,_,_,ca,cc,hs,hid ⟨P7.out,by rw [RI.out,hit.out],hc⟩⟩
       case measure=>
        have hl:=LESS.out.1;rw [hit.out] at hl;rw [iOf_ps P7.out.ps,eOf_ps P7.out.ps,iOf_ps hst.out.1.ps,eOf_ps hst.out.1.ps];exact hl
     ·by_cases e2:k=2
      ·subst e2;obtain ⟨cg,hcg⟩:∃x,x=chargeS tz r.2 tl tc:=⟨_,rfl⟩;have hit:Hid (itemS tz σ p=({ p with charges:=p.charges++[cg.1] },cg.2)):=hid (by unfold itemS;simp only;rw [←HRR.out,←HKK.out,if_neg (show ¬ (2:Int)=0 by decide),if_neg (show ¬ (2:Int)=1 by decide),if_pos rfl,hcg,HTL.out,HTC.out]);have LESS:=hid (item_less p (show Ok tz σ from ⟨FN.out.toks,HLT.out⟩) GOT.out);have CT:=hid (item_cnt7 CN.out GOT.out);obtain ⟨cv,hcv⟩:∃x,x=cg.1:=⟨_,rfl⟩;have Hcg:=hid hcg;have Hcv:=hid hcv;clear hcg hcv;have t2:=HBV.out.cell 2 _ rfl;have t3:=HBV.out.cell 3 _ rfl;have pp:=HPV.out.box.cell 10 _ rfl;have lkp:=HPV.out.box.lt;have OLDR:=hid (fun (σ:Slot) (r:Mm.R) (k:Nat) (hr:rowOf p ma mc fa fc ca cc hs σ=some r) (e:r.v.ownBlock=some k)=>((HPV.out.owns.own σ r hr).lt k e).2);have HPD:=hid (HPV.out.on ((Below.refl _ _).drew));have hsm:p.charges.length+1≤1000000:=by have:=SM.out;omega
       go_upto_region 34 with fail
       go_region_law
        (first
        | (rw [if_pos (by first|rfl|kernel_rfl)]
           go_simp
           go_at_call 28
           refine (charge_any b tb cap tz r.2 tl tc _ HPD.out.ps).mono ?_;rw [←Hcg.out,←Hcv.out];unfold chargeC;rintro e w21 ⟨ta,tc7,aa,ac,rfl,q21,g21,ot,oa,ap⟩;have P21:=hid (HPD.out.call q21 g21);have pp21:=P21.out.box.cell 10 _ rfl;have lkp21:=P21.out.box.lt;have OT:=hid ot;have OA:=hid oa;have AP:=hid ap
           clear q21 g21 ot oa ap)
        | (refine step_more7 [cv.meter,cv.win.has,cv.win.a.y,cv.win.a.m,cv.win.a.d,cv.win.b.y,cv.win.b.m,cv.win.b.d,cv.allowance,cv.block,cv.kind,.slice ta cv.tiers.length tc7,cv.mode,.slice aa cv.adjusts.length ac,cv.line,cv.col] _ rfl rfl _ _ 43 87 _ 16 168 rfl Tryz.underlying43 info_charge7 rfl (by decide) _ _ _ rfl (P21.out.owns.own .c _ rfl) rfl (by simp [Value.oneCell']) rfl hsm (by decide) P21.out.bsz ?_
           intro g7 cap7 w7 hown hgrow hat;have AL:=bel_alloc w21 (.cells #[cv.meter,cv.win.has,cv.win.a.y,cv.win.a.m,cv.win.a.d,cv.win.b.y,cv.win.b.m,cv.win.b.d,cv.allowance,cv.block,cv.kind,.slice ta cv.tiers.length tc7,cv.mode,.slice aa cv.adjusts.length ac,cv.line,cv.col] 87);have PX:=P21.out.on AL;have Z7:=PX.box.grown hgrow (PX.ne (σ:=.c) rfl PX.lp);have z8:=Z7.cell 10 _ rfl;have f8:=Z7.free 10;have lz:=Z7.lt;have P7:=hid (PX.charge (x:=cv) (hd:=⟨ta,tc7,aa,ac⟩) HPV.out.bsz (fun t q k hr e=>OLDR.out t q k hr e) (owns_on OT.out AL) (owns_on OA.out AL) AP.out hgrow hown (own_at7 hat) (by simp))
           clear hown hgrow hat PX Z7 AL))
       all_goals
        rw [Hcv.out] at P7;clear pp21 lkp21 pp lkp t2 t3;go_wp2;go_roundw
        case rel=>
         have hc:=CT.out;rw [hit.out] at hc;exact ⟨_,_,ma,mc,fa,fc,_,_,_,hid ⟨P7.out,by rw [RI.out,hit.out],hc⟩⟩
        case measure=>
         have hl:=LESS.out.1;rw [hit.out] at hl;rw [iOf_ps P7.out.ps,eOf_ps P7.out.ps,iOf_ps hst.out.1.ps,eOf_ps hst.out.1.ps];exact hl
      ·have hit:Hid (itemS tz σ p=(p,wrg tz r.2 4)):=hid (by unfold itemS;simp only;rw [←HRR.out,←HKK.out,if_neg e0,if_neg e1,if_neg e2]);have LESS:=hid (item_less p (show Ok tz σ from ⟨FN.out.toks,HLT.out⟩) GOT.out);go_wp2_with fail
       refine (wrong_any b tb cap tz r.2 4 wv HPV.out.ps).mono ?_;rintro e wx ⟨rfl,qx,gx⟩;have HPX:=hid (HPV.out.call qx gx);clear qx gx;go_wp2;go_roundw
       case rel=>
        have hl:=LESS.out.2;rw [hit.out] at hl;exact ⟨_,p,ma,mc,fa,fc,ca,cc,hs,hid ⟨HPX.out,by rw [RI.out,hit.out],Nat.le_trans CN.out hl⟩⟩
       case measure=>
        have hl:=LESS.out.1;rw [hit.out] at hl;rw [iOf_ps HPX.out.ps,eOf_ps HPX.out.ps,iOf_ps hst.out.1.ps,eOf_ps hst.out.1.ps];exact hl
  ·-- something is wrong
   go_wp2_with fail
   refine wp_region_quiet_below (by kernel_rfl) (by kernel_rfl) ?_;repeat (go_big_quiet_step (fail))
   refine wpQuiet_nil ?_;intro _ hw';obtain ⟨⟨dq,osq⟩,hw''⟩:=hw';subst hw'';obtain ⟨wq,hwq⟩:∃wq,wq=grow (redrawn wr dq) osq:=⟨_,rfl⟩;have bq:Below wr.heap.size wr wq:=by rw [hwq];exact below_regrown wr dq osq
   rw [←hwq];have HP:=hid (hst.out.1.on bq);clear hwq k0 k1 k2 k3 bq lb ltb;have lbq:=HP.out.ps.lt;have z:¬ σ.err=0:=by simpa using h1
   have RE:Hid (R=(p,σ)):=hid (by rw [hst.out.2.1];exact items_stop _ _ _ _ (by rw [HGO.out,h1];rfl));have PE:Hid (PS=(planZ,σ.err,σ.ln,σ.cl)):=hid (by rw [HPL.out,RE.out];simp only;rw [if_neg z]);have c2:=HP.out.ps.c2;have rz:Hid (wq.there kr 0 13):=hid (there_of HP.out.res.cell HP.out.res.free (n:=13) rfl);clear z;go_upto_region 36 with fail
   have k2:=cell_regrown HP.out.ps.c2;have k3:=cell_regrown HP.out.ps.c3;have k4:=cell_regrown HP.out.ps.c4
   have KZ:Hid (∀(d:Nat) (os:Array Obj),(grow (redrawn wq d) os).rangeAt kr 0 [.string ⟨#[]⟩,.string ⟨#[]⟩,.int .i64 0,.int .i64 0,.int .i64 0,.int .i64 0,.int .i64 0,.int .i64 0,.slice none 0 0,.slice none 0 0,.slice none 0 0,.int .i64 0,.int .i64 0]∧(grow (redrawn wq d) os).there kr 0 13):=hid fun d os=>by
    have B:=HP.out.res.on (below_regrown wq d os);exact ⟨range_of B.cell,there_of B.cell B.free (n:=13) rfl⟩
   clear c2 h1 lbq;refine wp_region_quiet_below (by kernel_rfl) (by kernel_rfl) ?_;repeat (go_big_quiet_step (fail))
   go_big_quiet_want
   refine quiet_store' rfl 45 (.tmp 2) (.tmp 163) rfl kr 0 #[.string ⟨#[]⟩,.string ⟨#[]⟩,.int .i64 0,.int .i64 0,.int .i64 0,.int .i64 0,.int .i64 0,.int .i64 0,.slice none 0 0,.slice none 0 0,.slice none 0 0,.int .i64 0,.int .i64 0] (by go_simp) (by go_simp) (fun W hW=>?_) (by kernel_rfl) (by simp [Value.oneCell']) ?_
   ·obtain ⟨⟨d,os⟩,rfl⟩:=hW;exact ⟨(KZ.out d os).1,by simpa using (KZ.out d os).2⟩
   go_big_quiet_on
   repeat (go_big_quiet_step (fail))
   refine wpQuiet_nil ?_;intro _ hw';obtain ⟨⟨dq,osq⟩,hw''⟩:=hw';subst hw'';obtain ⟨wz,hwz⟩:∃wz,wz=grow (redrawn wq dq) osq:=⟨_,rfl⟩;have bz:Below wq.heap.size wq wz:=by rw [hwz];exact below_regrown wq dq osq
   have rr:wz.rangeAt kr 0 [.string ⟨#[]⟩,.string ⟨#[]⟩,.int .i64 0,.int .i64 0,.int .i64 0,.int .i64 0,.int .i64 0,.int .i64 0,.slice none 0 0,.slice none 0 0,.slice none 0 0,.int .i64 0,.int .i64 0]:=by rw [hwz];exact (KZ.out dq osq).1
   rw [←hwz];have HP2:=hid (HP.out.on bz);clear hwz k2 k3 k4 bz;go_wp2;refine bodyPost_ret (v:=.tuple #[.agg #[.string ⟨#[]⟩,.string ⟨#[]⟩,.int .i64 0,.int .i64 0,.int .i64 0,.int .i64 0,.int .i64 0,.int .i64 0,.slice none 0 0,.slice none 0 0,.slice none 0 0,.int .i64 0,.int .i64 0],.int .i64 σ.err,.int .i64 σ.ln,.int .i64 σ.cl]) ?_ rfl ?_
   ·refine results_plan (p:=2) (a:=3) (b:=4) (c:=5) ?_ _ _ kr [.string ⟨#[]⟩,.string ⟨#[]⟩,.int .i64 0,.int .i64 0,.int .i64 0,.int .i64 0,.int .i64 0,.int .i64 0,.slice none 0 0,.slice none 0 0,.slice none 0 0,.int .i64 0,.int .i64 0] _ ?_ rr Tryz.underlying45 ?_ ?_
    ·rfl
    ·rfl
    ·rfl
    ·kernel_rfl
   have hkr:=HKR.out;exact ⟨none,0,none,0,none,0,[],by rw [PE.out];rfl,by rw [PE.out];rfl,by rw [PE.out];exact owns_none _ _,HP2.out.bel⟩
end R7
end Go.Proofs.YtjgogpaedaffkaaGreat
