/- Plans without places, and their rows of texts, as plain data: two rows are the same just if the plans are, but for places. -/
import Derived.Test.YtjgogpaedaffkaaGreatJRef6g
namespace Go.Proofs.YtjgogpaedaffkaaGreat
namespace Mm
end Mm
namespace P
end P
namespace R6
end R6
namespace R6
open Go.RowKit Mm P
def nM (m:Meter):Meter:={ m with line:=0,col:=0 }
def nF (f:Fee):Fee:={ f with line:=0,col:=0 }
def nC (c:Charge):Charge:={ c with line:=0,col:=0 }
theorem row_mem {α:Type} {T:Ty α} {w:World} {ao:Option Addr} {len cap:Nat} {xs:List α} (h:Row T w ao len cap xs) {x:α} (hx:x∈xs):∃cs,T.lies w cs x:=by
 obtain ⟨j,hj,e⟩:=List.getElem_of_mem hx;obtain ⟨_,_,cs,_,_,h3,_⟩:=h.at (j:=j) (x:=x) (by rw [List.getElem?_eq_getElem hj,e]);exact ⟨cs,h3⟩
end R6
namespace Mm
open Go.RowKit Go.Deep P R6
inductive Slot where
 | m
 | f
 | c
 | t (i:Nat)
 | a (i:Nat)
deriving DecidableEq
structure Hd where
 ta:Option Addr
 tc:Nat
 aa:Option Addr
 ac:Nat
structure R where
 e:TypeId
 size:Nat
 a:Option Addr
 n:Nat
 cap:Nat
 xs:List Value
def R.v (r:R):Value:=.slice r.a r.n r.cap
structure Owns (w:World) (base:Nat) (ρ:Slot→Option R):Prop where
 own:∀s r,ρ s=some r→w.ownsRow base r.e r.size r.v r.n r.xs
 apart:∀s t r r' k,ρ s=some r→ρ t=some r'→r.v.ownBlock=some k→r'.v.ownBlock=some k→s=t
theorem Owns.on {w w':World} {base:Nat} {ρ:Slot→Option R} (h:Owns w base ρ) (b:Below w.heap.size w w'):Owns w' base ρ:=⟨fun s r hs=>owns_on (h.own s r hs) b,h.apart⟩
theorem Owns.others {w w':World} {base:Nat} {ρ:Slot→Option R} (h:Owns w base ρ) {s:Slot} {r:R} (hs:ρ s=some r) (hg:w.grownBy w' r.v.ownBlock):∀t r',t≠s→ρ t=some r'→w'.ownsRow base r'.e r'.size r'.v r'.n r'.xs:=by
 intro t r' hne ht;refine (h.own t r' ht).kept hg ?_;cases hb:r'.v.ownBlock with
 | none=>exact .inl rfl
 | some k=>
   refine .inr (fun e=>hne ?_);exact h.apart t s r' r k ht hs hb e.symm
def zC (x:Charge×Hd):List Value:=chargeC x.1 x.2.ta x.2.tc x.2.aa x.2.ac
theorem zC_len (x:Charge×Hd):(zC x).length=16:=rfl
def rowOf (p:Plan) (ma:Option Addr) (mc:Nat) (fa:Option Addr) (fc:Nat) (ca:Option Addr) (cc:Nat) (hs:List Hd):Slot→Option R
 | .m=>some ⟨39,5,ma,p.meters.length,mc,p.meters.flatMap meterC⟩
 | .f=>some ⟨84,10,fa,p.fees.length,fc,p.fees.flatMap feeC⟩
 | .c=>some ⟨87,16,ca,p.charges.length,cc,(p.charges.zip hs).flatMap zC⟩
 | .t i=>((p.charges.zip hs)[i]?).map fun x=>⟨54,2,x.2.ta,x.1.tiers.length,x.2.tc,x.1.tiers.flatMap tierC⟩
 | .a i=>((p.charges.zip hs)[i]?).map fun x=>⟨115,3,x.2.aa,x.1.adjusts.length,x.2.ac,x.1.adjusts.flatMap adjC⟩
structure Fits (p:Plan):Prop where
 meters:∀m∈p.meters,strOk m.name∧strOk m.unit∧I64 m.max∧I64 m.line∧I64 m.col
 fees:∀f∈p.fees,I64 f.amount∧winOk f.win∧I64 f.line∧I64 f.col
 charges:∀c∈p.charges,strOk c.meter∧winOk c.win∧(I64 c.allowance∧I64 c.block∧I64 c.kind∧I64 c.mode∧I64 c.line∧I64 c.col)∧(∀t∈c.tiers,I64 t.upto∧I64 t.rate)∧∀a∈c.adjusts,I64 a.kind∧I64 a.num∧I64 a.mode
 name:strOk p.name∧strOk p.cur
 days:dayOk p.a∧dayOk p.b
 place:I64 p.line∧I64 p.col
theorem fits_of {w:World} {cs:List Value} {p:Plan} {ma:Option Addr} {mc:Nat} {fa:Option Addr} {fc:Nat} {ca:Option Addr} {cc:Nat} (h:PlanLies w cs p ma mc fa fc ca cc):Fits p:=by
 refine ⟨fun m hm=>?_,fun f hf=>?_,fun c hc=>?_,h.name,h.days,h.place⟩
 ·obtain ⟨_,_,k⟩:=row_mem h.meters hm;exact k
 ·obtain ⟨_,_,k⟩:=row_mem h.fees hf;exact k
 ·obtain ⟨_,_,_,_,_,k⟩:=row_mem h.charges hc;refine ⟨k.meter,k.win,k.nums,fun t ht=>?_,fun a ha=>?_⟩
  ·obtain ⟨_,_,k1⟩:=row_mem k.tiers ht;exact k1
  ·obtain ⟨_,_,k1⟩:=row_mem k.adjusts ha;exact k1
theorem row_of_own {α:Type} {n:Nat} {cells:α→List Value} {ok:α→Prop} {hn:∀x,(cells x).length=n} {w:World} {base:Nat} {e:TypeId} {ao:Option Addr} {cap:Nat} {xs:List α} (h:w.ownsRow base e n (.slice ao xs.length cap) xs.length (xs.flatMap cells)) (hok:∀x∈xs,ok x) :
  Row (leaf n cells ok hn) w ao xs.length cap xs:=by
 obtain ⟨ao',cap',e,k⟩:=row_own (ok:=ok) (hn:=hn) h hok;simp only [Value.slice.injEq] at e;obtain ⟨rfl,_,rfl⟩:=e;exact k
theorem zip_get {α β:Type} {l:List α} {m:List β} {i:Nat} {a:α} {b:β} (h:l[i]?=some a) (k:m[i]?=some b):(l.zip m)[i]?=some (a,b):=by
 rw [List.getElem?_zip_eq_some];exact ⟨h,k⟩
theorem lies_of {w:World} {base:Nat} {p:Plan} {ma:Option Addr} {mc:Nat} {fa:Option Addr} {fc:Nat} {ca:Option Addr} {cc:Nat} {hs:List Hd} (hl:hs.length=p.charges.length) (ok:Fits p)
  (h:∀s r,rowOf p ma mc fa fc ca cc hs s=some r→w.ownsRow base r.e r.size r.v r.n r.xs):PlanLies w (planC p ma mc fa fc ca cc) p ma mc fa fc ca cc:=by
 refine ⟨rfl,row_of_own (h .m _ rfl) ok.meters,row_of_own (h .f _ rfl) ok.fees,?_,ok.name,ok.days,ok.place⟩;have hc:=h .c _ rfl;have hz:(p.charges.zip hs).length=p.charges.length:=by rw [List.length_zip,hl,Nat.min_self]
 rcases hc.2 with ⟨h1,h2⟩|⟨g,cap,cur,h1,_,h3,h4,h5,_,_⟩
 ·simp only [R.v,Value.slice.injEq] at h1;obtain ⟨rfl,h1b,rfl⟩:=h1;exact ⟨rfl,Nat.le_of_eq h1b,Nat.zero_le _,fun n=>absurd (List.eq_nil_of_length_eq_zero h1b) n⟩
 ·simp only [R.v,Value.slice.injEq] at h1;obtain ⟨rfl,_,rfl⟩:=h1
  have hg:g<w.heap.size:=by
   rcases Nat.lt_or_ge g w.heap.size with k|k
   ·exact k
   ·rw [Array.getElem?_eq_none k] at h3;cases h3
  refine ⟨rfl,h4,by unfold maxLen at h5;omega,fun _=>⟨g,0,rfl,hg,fun j c hj=>?_⟩⟩;have hjl:=(List.getElem?_eq_some_iff.1 hj).1;obtain ⟨d,hd⟩:∃d,hs[j]?=some d:=⟨_,List.getElem?_eq_getElem (by omega)⟩;have hzj:=zip_get hj hd;obtain ⟨o1,o2,o3,o4,o5⟩:=ok.charges c (List.mem_of_getElem? hj);have ht:=h (.t j) ⟨_,2,d.ta,c.tiers.length,d.tc,c.tiers.flatMap tierC⟩ (by show Option.map _ ((p.charges.zip hs)[j]?)=_;rw [hzj];rfl);have ha:=h (.a j) ⟨_,3,d.aa,c.adjusts.length,d.ac,c.adjusts.flatMap adjC⟩ (by show Option.map _ ((p.charges.zip hs)[j]?)=_;rw [hzj];rfl);refine ⟨chargeC c d.ta d.tc d.aa d.ac,⟨d.ta,d.tc,d.aa,d.ac,rfl,row_of_own ht o4,row_of_own ha o5,o1,o2,o3⟩,fun i u hi=>?_⟩;have hil:i<16:=(List.getElem?_eq_some_iff.1 hi).1;have hlt:j*16+i<p.charges.length*16:=by omega
  show w.cell? ⟨g,0+j*16+i,none⟩=some u
  rw [Nat.zero_add,World.ownsRow.cellAt hc _ hlt];exact flat_get (cells:=zC) zC_len _ j (c,d) i u hzj hi
structure Box (W:World) (b:Nat) (cs:List Value):Prop where
 lt:b<W.heap.size
 cell:∀j u,cs[j]?=some u→W.cell? ⟨b,j,none⟩=some u
 free:∀j,W.frozen? ⟨b,j,none⟩=false
theorem Box.new (w:World) (cs:List Value) (t:TypeId):Box (w.alloc (.cells cs.toArray t)) w.heap.size cs:=by
 refine ⟨by simp,fun j u h=>?_,fun j=>?_⟩
 ·rw [World.cell?_alloc_new];simpa using h
 ·simp
theorem Box.on {W W':World} {b:Nat} {cs:List Value} (h:Box W b cs) (hb:Below W.heap.size W W'):Box W' b cs:=
 ⟨Nat.lt_of_lt_of_le h.lt hb.size,fun j u k=>by rw [hb.cell h.lt];exact h.cell j u k,fun j=>by rw [hb.frozen h.lt];exact h.free j⟩
theorem Box.grown {W W':World} {b:Nat} {cs:List Value} (h:Box W b cs) {row:Option Nat} (hg:W.grownBy W' row) (hne:some b≠row):Box W' b cs:=
 ⟨Nat.lt_of_lt_of_le h.lt hg.size,fun j u k=>by rw [World.cell?_of_block (w:=W) (hg.block b h.lt hne)];exact h.cell j u k,fun j=>by rw [World.frozen?_of_block (w:=W) (hg.block b h.lt hne)];exact h.free j⟩
theorem Box.set {W:World} {b:Nat} {cs:List Value} (h:Box W b cs) (i:Nat) (u:Value):Box (W.setCell ⟨b,i,none⟩ u) b (cs.set i u):=by
 refine ⟨by simpa using h.lt,fun j v k=>?_,fun j=>?_⟩
 ·rw [List.getElem?_set] at k;split at k
  ·rename_i e
   subst e;split at k
   ·rename_i hi
    obtain rfl:u=v:=by simpa using k
    have:=h.cell i (cs[i]'hi) (List.getElem?_eq_getElem hi);exact World.cell?_setCell_same (h:=this) ..
   ·cases k
  ·rename_i e
   rw [World.cell?_setCell_other (h:=show (⟨b,i,none⟩:Addr)≠⟨b,j,none⟩ by simp only [ne_eq,Addr.mk.injEq,and_true,true_and];exact e) ..];exact h.cell j v k
 ·simpa using h.free j
end Mm
namespace P
open Go.RowKit Mm
theorem toks_cons {t:Tok} {ts:List Tok} (h:Toks ts):Toks (t::ts):=by
 refine ⟨fun i u hi hl=>?_,by simp⟩;cases i with
 | zero=>
   have:=h.pos;simp only [List.length_cons] at hl;omega
 | succ i=>exact h.last i u (by simpa using hi) (by simpa using hl)
theorem toks_end (ln cl:Nat):Toks [⟨0,[],ln,cl⟩]:=by
 refine ⟨fun i u hi _=>?_,by simp⟩;cases i with
 | zero=>cases hi;rfl
 | succ i=>cases hi
theorem lx_good (n:Nat) (l:List UInt8) (ln cl:Nat) (hn:l.length≤n) (h:(lx n l ln cl).2=none) :
  Toks (lx n l ln cl).1∧∀t∈(lx n l ln cl).1,t.t.length≤l.length∧t.ln≤ln+l.length∧t.cl≤cl+l.length+1:=by
 induction n generalizing l ln cl with
 | zero=>
   obtain rfl:l=[]:=List.eq_nil_of_length_eq_zero (by omega);exact ⟨toks_end ln cl,fun t ht=>by rw [List.mem_singleton.1 ht];exact ⟨Nat.le_refl _,by simp,by simp⟩⟩
 | succ n ih=>
   cases l with
   | nil=>exact ⟨toks_end ln cl,fun t ht=>by rw [List.mem_singleton.1 ht];exact ⟨Nat.le_refl _,by simp,by simp⟩⟩
   | cons c r=>
     have hp:=piece_pos c r;have hle:=piece_le (c::r);have hd:((c::r).drop (piece (c::r))).length=(c::r).length-piece (c::r):=List.length_drop ..;simp only [List.length_cons] at hn hd hle;unfold lx at h ⊢;have e:=fun ln cl hh=>ih ((c::r).drop (piece (c::r))) ln cl (by omega) hh;split at h
     ·rename_i hs
      rw [if_pos hs];obtain ⟨k1,k2⟩:=e _ _ h;refine ⟨k1,fun t ht=>?_⟩;obtain ⟨a,b,d⟩:=k2 t ht;simp only [List.length_cons];refine ⟨by omega,?_,?_⟩
      ·split at b<;>omega
      ·split at d<;>omega
     ·rename_i hs
      rw [if_neg hs];split at h
      ·cases h
      ·rename_i hk
       rw [if_neg hk];obtain ⟨k1,k2⟩:=e _ _ h;refine ⟨toks_cons k1,fun t ht=>?_⟩;simp only [List.length_cons];rcases List.mem_cons.1 ht with rfl|ht
       ·refine ⟨?_,by simp,by simp only;omega⟩;simp only [List.length_take,List.length_cons];omega
       ·obtain ⟨a,b,d⟩:=k2 t ht;exact ⟨by omega,by omega,by omega⟩
structure Fine (ts:List Tok):Prop where
 toks:Toks ts
 cnt:ts.length≤8193
 tok:∀t∈ts,t.t.length≤8192∧t.ln≤8193∧t.cl≤8194
theorem lexed_fine {l:List UInt8} (h:(lexed l).2.1=0):Fine (lexed l).1:=by
 unfold lexed at h ⊢;split at h
 ·cases h
 ·rename_i hl
  rw [if_neg hl];cases hx:(lex l 1 1).2 with
  | none=>
    obtain ⟨k1,k2⟩:=lx_good l.length l 1 1 (Nat.le_refl _) hx;have:=lex_count l 1 1;refine ⟨k1,by show (lex l 1 1).1.length≤_;omega,fun t ht=>?_⟩;obtain ⟨a,b,c⟩:=k2 t ht;exact ⟨by omega,by omega,by omega⟩
  | some x=>rw [hx] at h;cases h
theorem tk_small {ts:List Tok} (h:Fine ts) (s:St):(tk ts s).t.length≤8192∧(tk ts s).ln≤8193∧(tk ts s).cl≤8194:=by
 unfold tk;rw [List.getD_eq_getElem?_getD];cases hx:ts[s.i]? with
 | none=>exact ⟨by simp [nil0],by simp [nil0],by simp [nil0]⟩
 | some t=>exact h.tok t (List.mem_of_getElem? hx)
theorem tkn_small {ts:List Tok} (h:Fine ts) (s:St) (k:Nat):strOk ⟨(tkn ts s k).1.toArray⟩:=by
 have:=(tk_small h s).1;unfold tkn strOk;split
 ·simp [ByteArray.size];omega
 ·simp [ByteArray.size]
theorem foldl_le (l:List UInt8):∀n:Nat,l.foldl (fun n b=>10*n+(b.toNat-48)) n≤(n+207)*10 ^ l.length:=by
 induction l with
 | nil=>intro n;simp
 | cons b r ih=>
   intro n;rw [List.foldl_cons,List.length_cons,Nat.pow_succ];have hb:b.toNat<256:=b.toNat_lt;refine Nat.le_trans (ih _) ?_;rw [Nat.mul_comm (10 ^ r.length) 10,←Nat.mul_assoc];exact Nat.mul_le_mul_right _ (by omega)
theorem val_le (l:List UInt8) (k:Nat) (h:l.length≤k) (hk:k≤10):I64 (val l:Int):=by
 have h1:=foldl_le l 0;have h2:(10:Nat) ^ l.length≤10 ^ 10:=Nat.pow_le_pow_right (by decide) (by omega);have h3:(0+207)*(10:Nat) ^ l.length≤207*10 ^ 10:=Nat.mul_le_mul (by decide) h2;have h4:val l≤207*10 ^ 10:=Nat.le_trans h1 h3;unfold I64;omega
theorem day_ok (l:List UInt8):dayOk (dayOf' l):=by
 unfold dayOf';split
 ·rename_i h
  have hl:l.length=10:=by
   unfold reads formed at h;simp only [Bool.and_eq_true,decide_eq_true_eq] at h;omega
  exact ⟨val_le _ 4 (by rw [List.length_take];omega) (by decide),val_le _ 2 (by rw [List.length_take];omega) (by decide),val_le _ 2 (by rw [List.length_drop];omega) (by decide)⟩
 ·exact ⟨i64_0,i64_0,i64_0⟩
theorem num_ok (ts:List Tok) (s:St) (places most:Int):I64 (numS ts s places most).1:=by
 unfold numS;split
 ·show I64 (pN _ _ _)
  unfold pN;split
  ·exact i64_0
  ·rename_i h
   simp only [Bool.or_eq_true,not_or,Bool.not_eq_true] at h;have h2:=h.2;unfold pGreat at h2;simp only [Bool.or_eq_false_iff,Bool.not_eq_false'] at h2;by_cases k:I64 (pV (tk ts s).t places)
   ·exact k
   ·rw [ok64_f k] at h2;exact absurd h2.1 (by decide)
 ·exact i64_0
theorem win_ok (ts:List Tok) (s:St):winOk (winS ts s).1:=by
 unfold winS;split
 ·exact ⟨day_ok _,day_ok _⟩
 ·exact ⟨⟨i64_0,i64_0,i64_0⟩,⟨i64_0,i64_0,i64_0⟩⟩
theorem one_at (ts:List Tok) (s:St):∀(ws:List (List UInt8)) (k:Int),-1≤k→-1≤(oneAt ts s ws k).1∧(oneAt ts s ws k).1≤k+ws.length
 | [],k,h=>by unfold oneAt;simp;omega
 | w::r,k,h=>by
   unfold oneAt;split
   ·exact ⟨h,by simp;omega⟩
   ·obtain ⟨a,b⟩:=one_at ts s r (k+1) (by omega);refine ⟨a,?_⟩;rw [List.length_cons];omega
theorem one_ok (ts:List Tok) (s:St) (ws:List (List UInt8)) (h:ws.length≤100) : -1≤(oneS ts s ws).1∧(oneS ts s ws).1≤100:=by
 obtain ⟨a,b⟩:=one_at ts s ws 0 (by omega);exact ⟨a,by show (oneAt ts s ws 0).1≤_;omega⟩
theorem mode_ok (ts:List Tok) (s:St):I64 (modeS ts s).1:=by
 unfold modeS;split
 ·exact i64_0
 ·obtain ⟨a,b⟩:=one_ok ts s modes (by decide);unfold I64;omega
theorem opt_ok (ts:List Tok) (s:St) (l:List UInt8) {d:Int} (h:I64 d):I64 (optS ts s l d).1:=by
 unfold optS;split
 ·exact num_ok ..
 ·exact h
theorem tiers_ok (ts:List Tok):∀(n:Nat) (s:St) (acc:List Tier),(∀t∈acc,I64 t.upto∧I64 t.rate)→∀t∈(tiersS ts n s acc).1,I64 t.upto∧I64 t.rate
 | 0,_,acc,h=>h
 | n+1,s,acc,h=>by
   unfold tiersS;split
   ·refine tiers_ok ts n _ _ (fun t ht=>?_);rcases List.mem_append.1 ht with k|k
    ·exact h t k
    ·obtain rfl:=List.mem_singleton.1 k;exact ⟨num_ok ..,num_ok ..⟩
   ·exact h
theorem adj_ok (ts:List Tok) (s:St) {k:Int} (hk:I64 k):I64 (adjS ts s k).1.kind∧I64 (adjS ts s k).1.num∧I64 (adjS ts s k).1.mode:=by
 unfold adjS;split
 ·exact ⟨hk,num_ok ..,mode_ok ..⟩
 ·exact ⟨hk,num_ok ..,i64_0⟩
theorem adjs_ok (ts:List Tok):∀(n:Nat) (s:St) (acc:List Adj),(∀t∈acc,I64 t.kind∧I64 t.num∧I64 t.mode)→∀t∈(adjsS ts n s acc).1,I64 t.kind∧I64 t.num∧I64 t.mode
 | 0,_,acc,h=>h
 | n+1,s,acc,h=>by
   unfold adjsS;simp only;split
   ·exact h
   ·refine adjs_ok ts n _ _ (fun t ht=>?_);rcases List.mem_append.1 ht with k|k
    ·exact h t k
    ·obtain rfl:=List.mem_singleton.1 k;obtain ⟨a,b⟩:=one_ok ts s adjWords (by decide);exact adj_ok ts _ (by unfold I64;omega)
theorem kind_ok (ts:List Tok) (s:St):I64 (kindS ts s).1:=by
 obtain ⟨a,b⟩:=one_ok ts s kinds (by decide);show I64 (1+(oneS ts s kinds).1)
 unfold I64;omega
def chargeFits (c:Charge):Prop:=strOk c.meter∧winOk c.win∧(I64 c.allowance∧I64 c.block∧I64 c.kind∧I64 c.mode∧I64 c.line∧I64 c.col)∧(∀t∈c.tiers,I64 t.upto∧I64 t.rate)∧∀a∈c.adjusts,I64 a.kind∧I64 a.num∧I64 a.mode
theorem charge_ok {ts:List Tok} (hf:Fine ts) (s:St) {line col:Int} (h1:I64 line) (h2:I64 col):chargeFits (chargeS ts s line col).1:=by
 refine ⟨tkn_small hf _ _,win_ok ..,⟨opt_ok _ _ _ i64_0,opt_ok _ _ _ (by unfold I64;omega),kind_ok ..,mode_ok ..,h1,h2⟩,?_,?_⟩
 ·intro t ht;rcases List.mem_append.1 ht with k|k
  ·exact tiers_ok ts _ _ _ (fun _ h=>by cases h) t k
  ·obtain rfl:=List.mem_singleton.1 k;exact ⟨i64_0,num_ok ..⟩
 ·intro t ht;exact adjs_ok ts _ _ _ (fun _ h=>by cases h) t ht
theorem pos_ok {ts:List Tok} (hf:Fine ts) (s:St):I64 ((tk ts s).ln:Int)∧I64 ((tk ts s).cl:Int):=by
 obtain ⟨_,a,b⟩:=tk_small hf s;unfold I64;omega
theorem item_fits {ts:List Tok} (hf:Fine ts) (s:St) {p:Plan} (h:Fits p):Fits (itemS ts s p).1:=by
 obtain ⟨q1,q2⟩:=pos_ok hf s;unfold itemS;simp only;split
 ·refine ⟨fun m hm=>?_,h.fees,h.charges,h.name,h.days,h.place⟩;rcases List.mem_append.1 hm with k|k
  ·exact h.meters m k
  ·obtain rfl:=List.mem_singleton.1 k;exact ⟨tkn_small hf _ _,tkn_small hf _ _,num_ok ..,q1,q2⟩
 ·split
  ·refine ⟨h.meters,fun m hm=>?_,h.charges,h.name,h.days,h.place⟩;rcases List.mem_append.1 hm with k|k
   ·exact h.fees m k
   ·obtain rfl:=List.mem_singleton.1 k;exact ⟨num_ok ..,win_ok ..,q1,q2⟩
  ·split
   ·refine ⟨h.meters,h.fees,fun m hm=>?_,h.name,h.days,h.place⟩;rcases List.mem_append.1 hm with k|k
    ·exact h.charges m k
    ·obtain rfl:=List.mem_singleton.1 k;exact charge_ok hf _ q1 q2
   ·exact h
theorem items_fits {ts:List Tok} (hf:Fine ts):∀(n:Nat) (s:St) (p:Plan),Fits p→Fits (itemsS ts n s p).1
 | 0,_,_,h=>h
 | n+1,s,p,h=>by
   unfold itemsS;split
   ·exact items_fits hf n _ _ (item_fits hf s h)
   ·exact h
theorem head_fits {ts:List Tok} (hf:Fine ts) (s:St):Fits (headS ts s).1:=
 ⟨(fun _ h=>by cases h),(fun _ h=>by cases h),(fun _ h=>by cases h),⟨tkn_small hf _ _,tkn_small hf _ _⟩,⟨day_ok _,day_ok _⟩,pos_ok hf s⟩
theorem planZ_fits:Fits planZ:=
 ⟨(fun _ h=>by cases h),(fun _ h=>by cases h),(fun _ h=>by cases h),⟨by unfold strOk;decide,by unfold strOk;decide⟩,⟨⟨i64_0,i64_0,i64_0⟩,⟨i64_0,i64_0,i64_0⟩⟩,i64_0,i64_0⟩
theorem parsed_fits (l:List UInt8):Fits (parsed l).1:=by
 unfold parsed;simp only;split
 ·rename_i h
  unfold planS;simp only;split
  ·exact items_fits (lexed_fine h) _ _ _ (head_fits (lexed_fine h) _)
  ·exact planZ_fits
 ·exact planZ_fits
theorem winS_le (ts:List Tok) (s:St):s.i≤(winS ts s).2.i:=by
 unfold winS;split
 ·have h1:=tkn_le ts s.next 4;have h2:=wnt_le ts (dayS ts s.next).2 wTo;have h3:=tkn_le ts (wnt ts (dayS ts s.next).2 wTo) 4;have e:s.next.i=s.i+1:=rfl;show s.i≤(tkn ts (wnt ts (dayS ts s.next).2 wTo) 4).2.i
  have e2:(dayS ts s.next).2=(tkn ts s.next 4).2:=rfl;rw [e2] at h2 h3 ⊢;omega
 ·exact Nat.le_refl _
theorem optS_le (ts:List Tok) (s:St) (l:List UInt8) (d:Int):s.i≤(optS ts s l d).2.i:=by
 unfold optS;split
 ·have h1:=numS_le ts s.next 0 1000000;have h2:=wnt_le ts (numS ts s.next 0 1000000).2 sSemi;have e:s.next.i=s.i+1:=rfl;show s.i≤(wnt ts (numS ts s.next 0 1000000).2 sSemi).i
  omega
 ·exact Nat.le_refl _
theorem kindS_le (ts:List Tok) (s:St):s.i≤(kindS ts s).2.i:=by
 unfold kindS;simp only;split
 ·exact Nat.le_trans (oneAt_le ts s _ 0) (wrg_le _ _ _)
 ·exact oneAt_le ts s _ 0
theorem tiersS_le (ts:List Tok):∀(n:Nat) (s:St) (acc:List Tier),s.i≤(tiersS ts n s acc).2.i
 | 0,_,_=>Nat.le_refl _
 | n+1,s,acc=>by
   unfold tiersS;split
   ·have h1:=tierS_le ts s.next;have h2:=tiersS_le ts n (tierS ts s.next).2 (acc++[(tierS ts s.next).1]);have e:s.next.i=s.i+1:=rfl;omega
   ·exact Nat.le_refl _
theorem adjsS_le (ts:List Tok):∀(n:Nat) (s:St) (acc:List Adj),s.i≤(adjsS ts n s acc).2.i
 | 0,_,_=>Nat.le_refl _
 | n+1,s,acc=>by
   unfold adjsS;simp only;have h0:s.i≤(oneS ts s adjWords).2.i:=oneAt_le ts s _ 0;split
   ·exact h0
   ·have h1:=adjS_le ts (oneS ts s adjWords).2 (1+(oneS ts s adjWords).1);have h2:=adjsS_le ts n (adjS ts (oneS ts s adjWords).2 (1+(oneS ts s adjWords).1)).2 (acc++[(adjS ts (oneS ts s adjWords).2 (1+(oneS ts s adjWords).1)).1]);omega
theorem chargeS_le (ts:List Tok) (s:St) (line col:Int):s.i≤(chargeS ts s line col).2.i:=by
 refine Nat.le_trans (tkn_le ts s 1) ?_;refine Nat.le_trans (winS_le ts _) ?_;refine Nat.le_trans (wnt_le ts _ sOpen) ?_;refine Nat.le_trans (optS_le ts _ wAllowance 0) ?_;refine Nat.le_trans (optS_le ts _ wBlock 1) ?_;refine Nat.le_trans (kindS_le ts _) ?_;refine Nat.le_trans (wnt_le ts _ sOpen) ?_;refine Nat.le_trans (tiersS_le ts ts.length _ []) ?_;refine Nat.le_trans (wnt_le ts _ wRest) ?_;refine Nat.le_trans (wnt_le ts _ wRate) ?_;refine Nat.le_trans (numS_le ts _ 6 1000000000000) ?_;refine Nat.le_trans (wnt_le ts _ sSemi) ?_;refine Nat.le_trans (wnt_le ts _ sShut) ?_;refine Nat.le_trans (wnt_le ts _ wRound) ?_;refine Nat.le_trans (modeS_le ts _) ?_;refine Nat.le_trans (wnt_le ts _ sSemi) ?_;refine Nat.le_trans (adjsS_le ts ts.length _ []) ?_;exact wnt_le ts _ sShut
theorem meterS_le (ts:List Tok) (s:St) (line col:Int):s.i≤(meterS ts s line col).2.i:=by
 refine Nat.le_trans (tkn_le ts s 1) ?_;refine Nat.le_trans (wnt_le ts _ wUnit) ?_;refine Nat.le_trans (tkn_le ts _ 1) ?_;refine Nat.le_trans (wnt_le ts _ wMax) ?_;refine Nat.le_trans (numS_le ts _ 0 2000) ?_;exact wnt_le ts _ sSemi
theorem feeS_le (ts:List Tok) (s:St) (line col:Int):s.i≤(feeS ts s line col).2.i:=by
 refine Nat.le_trans (numS_le ts s 0 1000000000000) ?_;refine Nat.le_trans (winS_le ts _) ?_;exact wnt_le ts _ sSemi
theorem item_next (ts:List Tok) (s:St) (p:Plan) (h:goesOn ts s=true):s.i+1≤(itemS ts s p).2.i∨((itemS ts s p)=(p,wrg ts s 4)∧goesOn ts (wrg ts s 4)=false):=by
 by_cases h0:(oneS ts s itemWords).1<0
 ·right
  have e:oneS ts s itemWords=(-1,s):=oneAt_no ts s itemWords 0 (Int.le_refl _) h0;refine ⟨by unfold itemS;simp only;rw [e];rfl,?_⟩;unfold goesOn at h ⊢;simp only [Bool.and_eq_true,decide_eq_true_eq] at h;unfold wrg;rw [if_pos h.1];rfl
 ·left
  have e:(oneS ts s itemWords).2.i=s.i+1:=oneAt_yes ts s itemWords 0 (Int.le_refl _) (by show 0≤(oneS ts s itemWords).1;omega);unfold itemS;simp only;split
  ·have:=meterS_le ts (oneS ts s itemWords).2 (tk ts s).ln (tk ts s).cl;simp only;omega
  ·split
   ·have:=feeS_le ts (oneS ts s itemWords).2 (tk ts s).ln (tk ts s).cl;simp only;omega
   ·split
    ·have:=chargeS_le ts (oneS ts s itemWords).2 (tk ts s).ln (tk ts s).cl;simp only;omega
    ·have:=wrg_le ts (oneS ts s itemWords).2 4;simp only;omega
theorem items_stop (ts:List Tok) (n:Nat) (s:St) (p:Plan) (h:goesOn ts s=false):itemsS ts n s p=(p,s):=by
 cases n with
 | zero=>rfl
 | succ n=>unfold itemsS;rw [h];rfl
theorem items_fuel (ts:List Tok):∀(n m:Nat) (s:St) (p:Plan),Ok ts s→ts.length≤n+s.i→ts.length≤m+s.i→itemsS ts n s p=itemsS ts m s p
 | 0,m,s,p,h,hn,_=>by have:=h.lt;omega
 | n+1,0,s,p,h,_,hm=>by have:=h.lt;omega
 | n+1,m+1,s,p,h,hn,hm=>by
   unfold itemsS;split
   ·rename_i ho
    rcases item_next ts s p ho with k|⟨k1,k2⟩
    ·exact items_fuel ts n m _ _ (h.itemS p) (by omega) (by omega)
    ·rw [k1];simp only;rw [items_stop ts n _ _ k2,items_stop ts m _ _ k2]
   ·rfl
theorem items_step {ts:List Tok} {s:St} {p:Plan} (h:Ok ts s) (ho:goesOn ts s=true):itemsS ts ts.length s p=itemsS ts ts.length (itemS ts s p).2 (itemS ts s p).1:=by
 obtain ⟨n,hn⟩:∃n,ts.length=n+1:=⟨ts.length-1,by have:=h.lt;omega⟩;rcases item_next ts s p ho with k|⟨k1,k2⟩
 ·have:=items_fuel ts n (n+1) (itemS ts s p).2 (itemS ts s p).1 (h.itemS p) (by omega) (by omega);rw [hn,←this];show itemsS ts (n+1) s p=_
  rw [itemsS,if_pos ho]
 ·rw [hn];show itemsS ts (n+1) s p=_
  rw [itemsS,if_pos ho,k1];simp only;rw [items_stop ts n _ _ k2,items_stop ts (n+1) _ _ k2]
end P
namespace P
open Go.RowKit
theorem drop_cons0 {l:List UInt8} {i:Nat} (h:i<l.length):l.drop i=l.getD i 0::l.drop (i+1):=by
 rw [List.drop_eq_getElem_cons h,List.getD_eq_getElem?_getD,List.getElem?_eq_getElem h,Option.getD_some]
theorem getD_drop0 (l:List UInt8) (a j:Nat):(l.drop a).getD j 0=l.getD (a+j) 0:=by
 rw [List.getD_eq_getElem?_getD,List.getElem?_drop,List.getD_eq_getElem?_getD]
theorem run_at {p:UInt8→Bool} {l:List UInt8} {i k:Nat} (h0:i≤k) (h1:k≤l.length) (ha:∀j,i≤j→j<k→p (l.getD j 0)=true) (hs:k<l.length→p (l.getD k 0)=false):run p (l.drop i)=k-i:=by
 refine run_eq _ _ _ (by rw [List.length_drop];omega) (fun j hj=>?_) (fun h=>?_)
 ·rw [getD_drop0];exact ha _ (by omega) (by omega)
 ·rw [getD_drop0,show i+(k-i)=k by omega];exact hs (by rw [List.length_drop] at h;omega)
theorem piece_note {l:List UInt8} {i k:Nat} (hi:i<l.length) (h0:i+1≤k) (h1:k≤l.length) (hc:l.getD i 0=35) (ha:∀j,i+1≤j→j<k→l.getD j 0≠10) (hs:k<l.length→l.getD k 0=10):piece (l.drop i)=k-i:=by
 rw [drop_cons0 hi,piece_cons,hc,if_pos (by decide),run_at h0 h1 (fun j a b=>by simpa using ha j a b) (fun h=>by rw [hs h];decide)];omega
theorem piece_gap {l:List UInt8} {i:Nat} (hi:i<l.length) (hc:isGap (l.getD i 0)=true):piece (l.drop i)=1:=by
 have:¬ (l.getD i 0==35)=true:=by
  intro h;rw [beq_iff_eq] at h;rw [h] at hc
  revert hc;decide
 rw [drop_cons0 hi,piece_cons,if_neg this,if_pos hc]
theorem piece_row {l:List UInt8} {i k:Nat} (hi:i<l.length) (h0:i+1≤k) (h1:k≤l.length) (hn:skips (l.getD i 0)=false) (ha:∀j,i+1≤j→j<k→isLt (l.getD j 0)=true)
  (hs:isLt (l.getD i 0)=true→k<l.length→isLt (l.getD k 0)=false) (ho:isLt (l.getD i 0)=false→k=i+1):piece (l.drop i)=k-i:=by
 unfold skips at hn;rw [Bool.or_eq_false_iff] at hn;rw [drop_cons0 hi,piece_cons,if_neg (by rw [hn.1];decide),if_neg (by rw [hn.2];decide)];by_cases hl:isLt (l.getD i 0)=true
 ·rw [if_pos hl,run_at h0 h1 ha (hs hl)];omega
 ·rw [if_neg hl,ho (by simpa using hl)];omega
def Sofar (l:List UInt8) (i ln cl:Nat) (acc:List Tok):Prop:=lex l 1 1=(acc++(lex (l.drop i) ln cl).1,(lex (l.drop i) ln cl).2)
theorem read_start (l:List UInt8):Sofar l 0 1 1 []:=by unfold Sofar;simp
theorem Sofar.count {l:List UInt8} {i ln cl:Nat} {acc:List Tok} (h:Sofar l i ln cl acc):acc.length≤l.length+1:=by
 have:=lex_count l 1 1;rw [h] at this;simp only [List.length_append] at this;omega
theorem Sofar.stop {l:List UInt8} {i ln cl:Nat} {acc:List Tok} (h:Sofar l i ln cl acc) (hi:l.length≤i):lex l 1 1=(acc++[⟨0,[],ln,cl⟩],none):=by
 unfold Sofar at h;rw [List.drop_of_length_le hi,lex_nil] at h;exact h
theorem Sofar.line {l:List UInt8} {i ln cl:Nat} {acc:List Tok} (h:Sofar l i ln cl acc) (hi:i<l.length) (hc:l.getD i 0=10):Sofar l (i+1) (ln+1) 1 acc:=by
 have hp:piece (l.drop i)=1:=piece_gap hi (by rw [hc];decide);unfold Sofar at h ⊢;rw [drop_cons0 hi] at h hp;rw [lex_skip (by rw [hc];decide),hp,hc] at h;exact h
theorem Sofar.skip {l:List UInt8} {i k ln cl:Nat} {acc:List Tok} (h:Sofar l i ln cl acc) (hi:i<l.length) (hs:skips (l.getD i 0)=true) (hc:l.getD i 0≠10) (hik:i<k) (hp:piece (l.drop i)=k-i):Sofar l k ln (cl+(k-i)) acc:=by
 have e:l.drop k=(l.drop i).drop (k-i):=by rw [List.drop_drop,show i+(k-i)=k by omega]
 have hb:¬ (l.getD i 0==10)=true:=by simpa using hc
 unfold Sofar at h ⊢;rw [e];rw [drop_cons0 hi] at h hp ⊢;rw [lex_skip hs,hp,if_neg hb,if_neg hb] at h;exact h
theorem Sofar.bad {l:List UInt8} {i k ln cl:Nat} {acc:List Tok} (h:Sofar l i ln cl acc) (hi:i<l.length) (hs:skips (l.getD i 0)=false) (hp:piece (l.drop i)=k-i) (hk:kd ((l.drop i).take (k-i))=0):lex l 1 1=(acc,some (ln,cl)):=by
 unfold Sofar at h;rw [drop_cons0 hi] at h hp hk;rw [lex_bad hs (by rw [hp];exact hk),List.append_nil] at h;exact h
theorem Sofar.tok {l:List UInt8} {i k ln cl:Nat} {acc:List Tok} (h:Sofar l i ln cl acc) (hi:i<l.length) (hs:skips (l.getD i 0)=false) (hik:i<k) (hp:piece (l.drop i)=k-i) (hk:kd ((l.drop i).take (k-i))≠0) :
  Sofar l k ln (cl+(k-i)) (acc++[⟨kd ((l.drop i).take (k-i)),(l.drop i).take (k-i),ln,cl⟩]):=by
 have e:l.drop k=(l.drop i).drop (k-i):=by rw [List.drop_drop,show i+(k-i)=k by omega]
 unfold Sofar at h ⊢;rw [e];rw [drop_cons0 hi] at h hp hk ⊢;rw [lex_tok hs (by rw [hp];exact hk),hp] at h;rw [List.append_assoc];exact h
theorem lexed_great {l:List UInt8} (h:8192<l.length):lexed l=([],6,1,1):=by unfold lexed;rw [if_pos h]
theorem lexed_bad {l:List UInt8} {acc:List Tok} {a b:Nat} (h:l.length≤8192) (hl:lex l 1 1=(acc,some (a,b))):lexed l=([],3,a,b):=by unfold lexed;rw [if_neg (by omega),hl]
theorem lexed_ok {l:List UInt8} {acc:List Tok} (h:l.length≤8192) (hl:lex l 1 1=(acc,none)):lexed l=(acc,0,0,0):=by unfold lexed;rw [if_neg (by omega),hl]
end P
end Go.Proofs.YtjgogpaedaffkaaGreat
