/- What package parse does: adjustments. -/
import Derived.Test.YtofbobdhkbmbgaaGreatDoorJPa8
import Derived.Test.YtofbobdhkbmbgaaGreatDoorJCo1
set_option maxHeartbeats 8000000
namespace Go.Proofs.YtofbobdhkbmbgaaGreatDoor
namespace Pa
open Go.RowKit Go.Sort P Tl Mm
theorem one_adj (ts:List Tok) (s:St):oneS ts s adjWords=if onW ts s wPercent then (0,s.next) else if onW ts s wCap then (1,s.next) else if onW ts s wMinimum then (2,s.next) else if onW ts s wAdd then (3,s.next) else (-1,s):=rfl
theorem adjs_step {ts:List Tok} {s:St} {acc:List Adj} {k:Int} {a:Adj} {s':St} (h:Ok ts s) (hk:0≤k) (ho:oneS ts s adjWords=(k,s.next)) (e:adjS ts s.next (1+k)=(a,s')):adjsS ts ts.length s acc=adjsS ts ts.length s' (acc++[a])∧s.i+1≤s'.i:=by
 obtain ⟨n,hn⟩:∃n,ts.length=n+1:=⟨ts.length-1,by have:=h.lt;omega⟩
 have o1:Ok ts s.next:=by
  have:=h.oneS adjWords
  rw [ho] at this
  exact this
 have l1:=adjS_le ts s.next (1+k)
 have o2:=o1.adjS (1+k)
 rw [e] at l1 o2
 have l2:s.i+1≤s'.i:=l1
 refine ⟨?_,l2⟩
 have key:=adjs_fuel ts n (n+1) s' (acc++[a]) o2 (by omega) (by omega)
 rw [hn,←key]
 show adjsS ts (n+1) s acc=_
 rw [adjsS]
 simp only [ho,e]
 rw [if_neg (by omega)]
theorem adjs_stop {ts:List Tok} {s:St} {acc:List Adj} (h:Ok ts s) (ho:oneS ts s adjWords=(-1,s)):adjsS ts ts.length s acc=(acc,s):=by
 obtain ⟨n,hn⟩:∃n,ts.length=n+1:=⟨ts.length-1,by have:=h.lt;omega⟩
 rw [hn,adjsS]
 simp only [ho]
 rfl
theorem adjusts_any (b tb cap:Nat) (ts:List Tok) (s:St) (w:World) (h:Rd w b tb cap ts s) :
  Calls Tryz.prog 192 #[.pointer (some ⟨b,0,none⟩)] w fun x w'=>∃v,x=.returned v∧w'.ownsRow w.heap.size 121 3 v (adjsS ts ts.length s []).1.length ((adjsS ts ts.length s []).1.flatMap adjC)∧Rd w' b tb cap ts (adjsS ts ts.length s []).2∧w.grownBy w' (some b):=by
 obtain ⟨i0,hi,hz0,hz1,hz2⟩:=info_parts info_adjP
 obtain ⟨ad,had⟩:∃ad,ad=adjsS ts ts.length s []:=⟨_,rfl⟩
 rw [←had]
 have HAD:=hid had
 have hb:=h.lt
 have H:=hid h
 clear had h
 go_enter Tryz.func192,Tryz.ntmps192
 go_wp2_with fail
 go_loopw [3] (fun v wr=>∃(V:Value) (σ:St) (acc:List Adj),v=V∧Hid (Rd wr b tb cap ts σ∧w.grownBy wr (some b)∧wr.ownsRow w.heap.size 121 3 V acc.length (acc.flatMap adjC)∧ad=adjsS ts ts.length σ acc∧acc.length≤σ.i)) (fun _ wr=>leftOf wr b)
 case atStart=>exact ⟨_,_,[],rfl,hid ⟨H.out,grown_refl _ _,World.ownsRow_nil _ _ _ _,HAD.out,Nat.zero_le _⟩⟩
 case round=>
  obtain ⟨V,σ,acc,rfl,hst⟩:=hrel
  obtain ⟨wa,hwa,ba,Ba⟩:=loaded wr [.int .i64 0,.int .i64 0,.int .i64 0] 121
  have HWA:Hid (wr.alloc (.cells #[.int .i64 0,.int .i64 0,.int .i64 0] 121)=wa):=hid hwa
  have Oa:=hid (owns_on hst.out.2.2.1 ba)
  have Qa:=hid (hst.out.1.on ba)
  have Ga:=hid (grown_trans hst.out.2.1 (grown_below ba))
  have NV:=hid (fun (k:Nat) e=>(hst.out.2.2.1.lt k e).2)
  obtain ⟨ka,hka⟩:∃ka,ka=wr.heap.size:=⟨_,rfl⟩
  rw [←hka] at Ba
  have HKA:=hid hka
  have HB:=hid Ba
  have nka:some ka≠some b:=fun e=>by have:=Option.some.inj e;have:=hst.out.1.lt;omega
  have lka:w.heap.size≤ka:=by rw [hka];exact hst.out.2.1.size
  have hac:acc.length+1≤1000000:=by have:=hst.out.2.2.2.2;have:=hst.out.1.ok.lt;have:=hst.out.1.cnt;omega
  have OK:=hid hst.out.1.ok
  have ONE:=hid (one_adj ts σ)
  clear hwa ba Ba hka
  cases o0:onW ts σ wPercent
  case true=>
   have HE:=hid (on_err o0)
   have HON:=hid (OK.out.next (onW_k o0))
   have E0:Hid (tke ts σ wPercent=(true,σ.next)):=hid (by unfold tke;rw [o0];rfl)
   have hone:oneS ts σ adjWords=(0,σ.next):=by rw [ONE.out,o0];rfl
   obtain ⟨N,hN⟩:∃N,N=numS ts σ.next 3 100000000:=⟨_,rfl⟩
   obtain ⟨M,hM⟩:∃M,M=modeS ts N.2:=⟨_,rfl⟩
   have ST:=hid (adjs_step (acc:=acc) (a:=⟨1,N.1,M.1⟩) (s':=wnt ts M.2 sSemi) OK.out (by omega) hone (by rw [hM,hN];rfl))
   have HN:=hid hN
   have HM:=hid hM
   clear hone hN hM o0
   have c:=next_any b tb cap ts σ ⟨#[112,101,114,99,101,110,116]⟩ (by decide) wa Qa.out
   rw [show (⟨#[112,101,114,99,101,110,116]⟩:ByteArray).data.toList=wPercent from rfl] at c
   rw [E0.out] at c
   go_wp2_with fail
   rw [HWA.out,←HKA.out]
   refine c.mono ?_
   rintro e wb ⟨rfl,q,g⟩
   have Qb:=hid q
   have Gb:=hid (grown_trans Ga.out g)
   have Ob:=hid (own_call Oa.out g hb)
   have Yb:=hid (HB.out.grown g nka)
   clear c q g
   have c:=percent_any b tb cap ts σ.next wb Qb.out
   rw [←HN.out,←HM.out] at c
   go_wp2_with fail
   refine c.mono ?_
   rintro e wp ⟨rfl,q,g⟩
   have yp:=Yb.out.grown g nka
   have Gp:=hid (grown_trans Gb.out g)
   have Op:=hid (own_call Ob.out g hb)
   have d0:=yp.cell 0 _ rfl
   have d1:=yp.cell 1 _ rfl
   have d2:=yp.cell 2 _ rfl
   have f0:=yp.free 0
   have f1:=yp.free 1
   have f2:=yp.free 2
   have lk:=yp.lt
   obtain ⟨wq,hwq⟩:∃wq,wq=((wp.setCell ⟨ka,0,none⟩ (.int .i64 1)).setCell ⟨ka,1,none⟩ (.int .i64 N.1)).setCell ⟨ka,2,none⟩ (.int .i64 M.1):=⟨_,rfl⟩
   have Yq:Bx wq ka [.int .i64 1,.int .i64 N.1,.int .i64 M.1]:=by rw [hwq];exact ((yp.set 0 _).set 1 _).set 2 _
   have Qq:Rd wq b tb cap ts M.2:=by rw [hwq];exact ((q.far' hb lka _ _).far' hb lka _ _).far' hb lka _ _
   have Gq:w.grownBy wq (some b):=by rw [hwq];exact grown_put (grown_put (grown_put Gp.out lka _ _) lka _ _) lka _ _
   have nv:=fun e=>Nat.lt_irrefl _ (Nat.lt_of_lt_of_eq (NV.out ka e) HKA.out.symm)
   have oq:=ownsRow_setCell_other (ownsRow_setCell_other (ownsRow_setCell_other Op.out (a:=⟨ka,0,none⟩) nv (.int .i64 1)) (a:=⟨ka,1,none⟩) nv (.int .i64 N.1)) (a:=⟨ka,2,none⟩) nv (.int .i64 M.1)
   rw [←hwq] at oq
   have HWQ:=hid hwq
   have Oq:=hid oq
   have c:=need_any b tb cap ts M.2 ⟨#[59]⟩ (by decide) wq Qq
   rw [show (⟨#[59]⟩:ByteArray).data.toList=sSemi from rfl] at c
   clear q g yp hwq nv oq Qq
   go_wp2_with fail
   rw [←HWQ.out]
   refine c.mono ?_
   rintro e wz ⟨rfl,q,g⟩
   have yz:=Yq.grown g nka
   have Gz:=hid (grown_trans Gq g)
   have oz:=own_call Oq.out g hb
   have Qz:=hid q
   clear d0 d1 d2 f0 f1 f2 lk c q g Yq Gq
   have d0:=yz.cell 0 _ rfl
   have d1:=yz.cell 1 _ rfl
   have d2:=yz.cell 2 _ rfl
   have lk:=yz.lt
   have hbs:w.heap.size≤wz.heap.size:=Gz.out.size
   clear yz
   go_wp2_with (at_builtin;refine wpList_append_own _ rfl _ _ 55 rfl w.heap.size 121 i0 (.agg (adjC ⟨0,0,0⟩).toArray) 3 24 Tryz.underlying55 hi hz0 hz1 hz2 rfl (by decide) _ _ _ rfl (oz.alloc _) ⟨wz.heap.size,0,none⟩ 1 1 (adjC ⟨1,N.1,M.1⟩) rfl rfl (news_at wz (adjC ⟨1,N.1,M.1⟩) _) (by simp [adjC,Value.oneCell']) (by unfold maxLen;omega) (by omega) (by simp;omega) ?_)
   intro v5 w5 hown hgrow _
   have nk:=fun (k:Nat) e=>(oz.lt k e).1
   have G5:=hid (grown_own (grown_trans Gz.out (grown_alloc wz _ _)) hgrow nk)
   have Q5:Rd w5 b tb cap ts (wnt ts M.2 sSemi):=(Qz.out.on ((Below.refl _ _).alloc (Nat.le_refl _) _)).other hgrow (fun k e=>by have:=nk k e;omega)
   have O5:=hid hown
   have HQ5:=hid Q5
   clear hown hgrow nk Q5 oz
   go_wp2
   go_roundw
   case rel=>exact ⟨_,wnt ts M.2 sSemi,acc++[⟨1,N.1,M.1⟩],rfl,hid ⟨HQ5.out,G5.out,by
     simp only [List.length_append,List.length_singleton,List.flatMap_append,List.flatMap_cons,List.flatMap_nil,List.append_nil]
     exact O5.out,hst.out.2.2.2.1.trans ST.out.1,by have h1:=hst.out.2.2.2.2;have h2:=ST.out.2;simp only [List.length_append,List.length_singleton];omega⟩⟩
   case measure=>
    rw [leftOf_rd HQ5.out,leftOf_rd hst.out.1]
    exact left_less HON.out HE.out HQ5.out.ok ST.out.2
  case false=>
   have E0:Hid (tke ts σ wPercent=(false,σ)):=hid (by unfold tke;rw [o0];rfl)
   cases o1:onW ts σ wCap
   case true=>
    have HE:=hid (on_err o1)
    have HON:=hid (OK.out.next (onW_k o1))
    have E1:Hid (tke ts σ wCap=(true,σ.next)):=hid (by unfold tke;rw [o1];rfl)
    have hone:oneS ts σ adjWords=(1,σ.next):=by rw [ONE.out,o0,o1];rfl
    obtain ⟨N,hN⟩:∃N,N=numS ts σ.next 0 1000000000000:=⟨_,rfl⟩
    have ST:=hid (adjs_step (acc:=acc) (a:=⟨2,N.1,0⟩) (s':=wnt ts N.2 sSemi) OK.out (by omega) hone (by rw [hN];rfl))
    have HN:=hid hN
    clear hone hN o0 o1
    have c:=next_any b tb cap ts σ ⟨#[112,101,114,99,101,110,116]⟩ (by decide) wa Qa.out
    rw [show (⟨#[112,101,114,99,101,110,116]⟩:ByteArray).data.toList=wPercent from rfl] at c
    rw [E0.out] at c
    go_wp2_with fail
    rw [HWA.out,←HKA.out]
    refine c.mono ?_
    rintro e wb ⟨rfl,q,g⟩
    have Qb:=hid q
    have Gb:=hid (grown_trans Ga.out g)
    have Ob:=hid (own_call Oa.out g hb)
    have Yb:=hid (HB.out.grown g nka)
    clear c q g
    have c:=next_any b tb cap ts σ ⟨#[99,97,112]⟩ (by decide) wb Qb.out
    rw [show (⟨#[99,97,112]⟩:ByteArray).data.toList=wCap from rfl] at c
    rw [E1.out] at c
    go_wp2_with fail
    refine c.mono ?_
    rintro e wc ⟨rfl,q,g⟩
    have Qc:=hid q
    have Gc:=hid (grown_trans Gb.out g)
    have Oc:=hid (own_call Ob.out g hb)
    have Yc:=hid (Yb.out.grown g nka)
    clear c q g
    have c:=amount_any b tb cap ts σ.next 2 wc Qc.out
    rw [←HN.out] at c
    go_wp2_with fail
    refine c.mono ?_
    rintro e wp ⟨rfl,q,g⟩
    have yp:=Yc.out.grown g nka
    have Gp:=hid (grown_trans Gc.out g)
    have Op:=hid (own_call Oc.out g hb)
    have d0:=yp.cell 0 _ rfl
    have d1:=yp.cell 1 _ rfl
    have d2:=yp.cell 2 _ rfl
    have f0:=yp.free 0
    have f1:=yp.free 1
    have f2:=yp.free 2
    have lk:=yp.lt
    obtain ⟨wq,hwq⟩:∃wq,wq=((wp.setCell ⟨ka,0,none⟩ (.int .i64 2)).setCell ⟨ka,1,none⟩ (.int .i64 N.1)).setCell ⟨ka,2,none⟩ (.int .i64 0):=⟨_,rfl⟩
    have Yq:Bx wq ka [.int .i64 2,.int .i64 N.1,.int .i64 0]:=by rw [hwq];exact ((yp.set 0 _).set 1 _).set 2 _
    have Qq:Rd wq b tb cap ts N.2:=by rw [hwq];exact ((q.far' hb lka _ _).far' hb lka _ _).far' hb lka _ _
    have Gq:w.grownBy wq (some b):=by rw [hwq];exact grown_put (grown_put (grown_put Gp.out lka _ _) lka _ _) lka _ _
    have nv:=fun e=>Nat.lt_irrefl _ (Nat.lt_of_lt_of_eq (NV.out ka e) HKA.out.symm)
    have oq:=ownsRow_setCell_other (ownsRow_setCell_other (ownsRow_setCell_other Op.out (a:=⟨ka,0,none⟩) nv (.int .i64 2)) (a:=⟨ka,1,none⟩) nv (.int .i64 N.1)) (a:=⟨ka,2,none⟩) nv (.int .i64 0)
    rw [←hwq] at oq
    have HWQ:=hid hwq
    have Oq:=hid oq
    have c:=need_any b tb cap ts N.2 ⟨#[59]⟩ (by decide) wq Qq
    rw [show (⟨#[59]⟩:ByteArray).data.toList=sSemi from rfl] at c
    clear q g yp hwq nv oq Qq
    go_wp2_with fail
    rw [←HWQ.out]
    refine c.mono ?_
    rintro e wz ⟨rfl,q,g⟩
    have yz:=Yq.grown g nka
    have Gz:=hid (grown_trans Gq g)
    have oz:=own_call Oq.out g hb
    have Qz:=hid q
    clear d0 d1 d2 f0 f1 f2 lk c q g Yq Gq
    have d0:=yz.cell 0 _ rfl
    have d1:=yz.cell 1 _ rfl
    have d2:=yz.cell 2 _ rfl
    have lk:=yz.lt
    have hbs:w.heap.size≤wz.heap.size:=Gz.out.size
    clear yz
    go_wp2_with (at_builtin;refine wpList_append_own _ rfl _ _ 55 rfl w.heap.size 121 i0 (.agg (adjC ⟨0,0,0⟩).toArray) 3 24 Tryz.underlying55 hi hz0 hz1 hz2 rfl (by decide) _ _ _ rfl (oz.alloc _) ⟨wz.heap.size,0,none⟩ 1 1 (adjC ⟨2,N.1,0⟩) rfl rfl (news_at wz (adjC ⟨2,N.1,0⟩) _) (by simp [adjC,Value.oneCell']) (by unfold maxLen;omega) (by omega) (by simp;omega) ?_)
    intro v5 w5 hown hgrow _
    have nk:=fun (k:Nat) e=>(oz.lt k e).1
    have G5:=hid (grown_own (grown_trans Gz.out (grown_alloc wz _ _)) hgrow nk)
    have Q5:Rd w5 b tb cap ts (wnt ts N.2 sSemi):=(Qz.out.on ((Below.refl _ _).alloc (Nat.le_refl _) _)).other hgrow (fun k e=>by have:=nk k e;omega)
    have O5:=hid hown
    have HQ5:=hid Q5
    clear hown hgrow nk Q5 oz
    go_wp2
    go_roundw
    case rel=>exact ⟨_,wnt ts N.2 sSemi,acc++[⟨2,N.1,0⟩],rfl,hid ⟨HQ5.out,G5.out,by
      simp only [List.length_append,List.length_singleton,List.flatMap_append,List.flatMap_cons,List.flatMap_nil,List.append_nil]
      exact O5.out,hst.out.2.2.2.1.trans ST.out.1,by have h1:=hst.out.2.2.2.2;have h2:=ST.out.2;simp only [List.length_append,List.length_singleton];omega⟩⟩
    case measure=>
     rw [leftOf_rd HQ5.out,leftOf_rd hst.out.1]
     exact left_less HON.out HE.out HQ5.out.ok ST.out.2
   case false=>
    have E1:Hid (tke ts σ wCap=(false,σ)):=hid (by unfold tke;rw [o1];rfl)
    cases o2:onW ts σ wMinimum
    case true=>
     have HE:=hid (on_err o2)
     have HON:=hid (OK.out.next (onW_k o2))
     have E2:Hid (tke ts σ wMinimum=(true,σ.next)):=hid (by unfold tke;rw [o2];rfl)
     have hone:oneS ts σ adjWords=(2,σ.next):=by rw [ONE.out,o0,o1,o2];rfl
     obtain ⟨N,hN⟩:∃N,N=numS ts σ.next 0 1000000000000:=⟨_,rfl⟩
     have ST:=hid (adjs_step (acc:=acc) (a:=⟨3,N.1,0⟩) (s':=wnt ts N.2 sSemi) OK.out (by omega) hone (by rw [hN];rfl))
     have HN:=hid hN
     clear hone hN o0 o1 o2
     have c:=next_any b tb cap ts σ ⟨#[112,101,114,99,101,110,116]⟩ (by decide) wa Qa.out
     rw [show (⟨#[112,101,114,99,101,110,116]⟩:ByteArray).data.toList=wPercent from rfl] at c
     rw [E0.out] at c
     go_wp2_with fail
     rw [HWA.out,←HKA.out]
     refine c.mono ?_
     rintro e wb ⟨rfl,q,g⟩
     have Qb:=hid q
     have Gb:=hid (grown_trans Ga.out g)
     have Ob:=hid (own_call Oa.out g hb)
     have Yb:=hid (HB.out.grown g nka)
     clear c q g
     have c:=next_any b tb cap ts σ ⟨#[99,97,112]⟩ (by decide) wb Qb.out
     rw [show (⟨#[99,97,112]⟩:ByteArray).data.toList=wCap from rfl] at c
     rw [E1.out] at c
     go_wp2_with fail
     refine c.mono ?_
     rintro e wc ⟨rfl,q,g⟩
     have Qc:=hid q
     have Gc:=hid (grown_trans Gb.out g)
     have Oc:=hid (own_call Ob.out g hb)
     have Yc:=hid (Yb.out.grown g nka)
     clear c q g
     have c:=next_any b tb cap ts σ ⟨#[109,105,110,105,109,117,109]⟩ (by decide) wc Qc.out
     rw [show (⟨#[109,105,110,105,109,117,109]⟩:ByteArray).data.toList=wMinimum from rfl] at c
     rw [E2.out] at c
     go_wp2_with fail
     refine c.mono ?_
     rintro e wd ⟨rfl,q,g⟩
     have Qd:=hid q
     have Gd:=hid (grown_trans Gc.out g)
     have Od:=hid (own_call Oc.out g hb)
     have Yd:=hid (Yc.out.grown g nka)
     clear c q g
     have c:=amount_any b tb cap ts σ.next 3 wd Qd.out
     rw [←HN.out] at c
     go_wp2_with fail
     refine c.mono ?_
     rintro e wp ⟨rfl,q,g⟩
     have yp:=Yd.out.grown g nka
     have Gp:=hid (grown_trans Gd.out g)
     have Op:=hid (own_call Od.out g hb)
     have d0:=yp.cell 0 _ rfl
     have d1:=yp.cell 1 _ rfl
     have d2:=yp.cell 2 _ rfl
     have f0:=yp.free 0
     have f1:=yp.free 1
     have f2:=yp.free 2
     have lk:=yp.lt
     obtain ⟨wq,hwq⟩:∃wq,wq=((wp.setCell ⟨ka,0,none⟩ (.int .i64 3)).setCell ⟨ka,1,none⟩ (.int .i64 N.1)).setCell ⟨ka,2,none⟩ (.int .i64 0):=⟨_,rfl⟩
     have Yq:Bx wq ka [.int .i64 3,.int .i64 N.1,.int .i64 0]:=by rw [hwq];exact ((yp.set 0 _).set 1 _).set 2 _
     have Qq:Rd wq b tb cap ts N.2:=by rw [hwq];exact ((q.far' hb lka _ _).far' hb lka _ _).far' hb lka _ _
     have Gq:w.grownBy wq (some b):=by rw [hwq];exact grown_put (grown_put (grown_put Gp.out lka _ _) lka _ _) lka _ _
     have nv:=fun e=>Nat.lt_irrefl _ (Nat.lt_of_lt_of_eq (NV.out ka e) HKA.out.symm)
     have oq:=ownsRow_setCell_other (ownsRow_setCell_other (ownsRow_setCell_other Op.out (a:=⟨ka,0,none⟩) nv (.int .i64 3)) (a:=⟨ka,1,none⟩) nv (.int .i64 N.1)) (a:=⟨ka,2,none⟩) nv (.int .i64 0)
     rw [←hwq] at oq
     have HWQ:=hid hwq
     have Oq:=hid oq
     have c:=need_any b tb cap ts N.2 ⟨#[59]⟩ (by decide) wq Qq
     rw [show (⟨#[59]⟩:ByteArray).data.toList=sSemi from rfl] at c
     clear q g yp hwq nv oq Qq
     go_wp2_with fail
     rw [←HWQ.out]
     refine c.mono ?_
     rintro e wz ⟨rfl,q,g⟩
     have yz:=Yq.grown g nka
     have Gz:=hid (grown_trans Gq g)
     have oz:=own_call Oq.out g hb
     have Qz:=hid q
     clear d0 d1 d2 f0 f1 f2 lk c q g Yq Gq
     have d0:=yz.cell 0 _ rfl
     have d1:=yz.cell 1 _ rfl
     have d2:=yz.cell 2 _ rfl
     have lk:=yz.lt
     have hbs:w.heap.size≤wz.heap.size:=Gz.out.size
     clear yz
     go_wp2_with (at_builtin;refine wpList_append_own _ rfl _ _ 55 rfl w.heap.size 121 i0 (.agg (adjC ⟨0,0,0⟩).toArray) 3 24 Tryz.underlying55 hi hz0 hz1 hz2 rfl (by decide) _ _ _ rfl (oz.alloc _) ⟨wz.heap.size,0,none⟩ 1 1 (adjC ⟨3,N.1,0⟩) rfl rfl (news_at wz (adjC ⟨3,N.1,0⟩) _) (by simp [adjC,Value.oneCell']) (by unfold maxLen;omega) (by omega) (by simp;omega) ?_)
     intro v5 w5 hown hgrow _
     have nk:=fun (k:Nat) e=>(oz.lt k e).1
     have G5:=hid (grown_own (grown_trans Gz.out (grown_alloc wz _ _)) hgrow nk)
     have Q5:Rd w5 b tb cap ts (wnt ts N.2 sSemi):=(Qz.out.on ((Below.refl _ _).alloc (Nat.le_refl _) _)).other hgrow (fun k e=>by have:=nk k e;omega)
     have O5:=hid hown
     have HQ5:=hid Q5
     clear hown hgrow nk Q5 oz
     go_wp2
     go_roundw
     case rel=>exact ⟨_,wnt ts N.2 sSemi,acc++[⟨3,N.1,0⟩],rfl,hid ⟨HQ5.out,G5.out,by
       simp only [List.length_append,List.length_singleton,List.flatMap_append,List.flatMap_cons,List.flatMap_nil,List.append_nil]
       exact O5.out,hst.out.2.2.2.1.trans ST.out.1,by have h1:=hst.out.2.2.2.2;have h2:=ST.out.2;simp only [List.length_append,List.length_singleton];omega⟩⟩
     case measure=>
      rw [leftOf_rd HQ5.out,leftOf_rd hst.out.1]
      exact left_less HON.out HE.out HQ5.out.ok ST.out.2
    case false=>
     have E2:Hid (tke ts σ wMinimum=(false,σ)):=hid (by unfold tke;rw [o2];rfl)
     cases o3:onW ts σ wAdd
     case true=>
      have HE:=hid (on_err o3)
      have HON:=hid (OK.out.next (onW_k o3))
      have E3:Hid (tke ts σ wAdd=(true,σ.next)):=hid (by unfold tke;rw [o3];rfl)
      have hone:oneS ts σ adjWords=(3,σ.next):=by rw [ONE.out,o0,o1,o2,o3];rfl
      obtain ⟨N,hN⟩:∃N,N=numS ts σ.next 0 1000000000000:=⟨_,rfl⟩
      have ST:=hid (adjs_step (acc:=acc) (a:=⟨4,N.1,0⟩) (s':=wnt ts N.2 sSemi) OK.out (by omega) hone (by rw [hN];rfl))
      have HN:=hid hN
      clear hone hN o0 o1 o2 o3
      have c:=next_any b tb cap ts σ ⟨#[112,101,114,99,101,110,116]⟩ (by decide) wa Qa.out
      rw [show (⟨#[112,101,114,99,101,110,116]⟩:ByteArray).data.toList=wPercent from rfl] at c
      rw [E0.out] at c
      go_wp2_with fail
      rw [HWA.out,←HKA.out]
      refine c.mono ?_
      rintro e wb ⟨rfl,q,g⟩
      have Qb:=hid q
      have Gb:=hid (grown_trans Ga.out g)
      have Ob:=hid (own_call Oa.out g hb)
      have Yb:=hid (HB.out.grown g nka)
      clear c q g
      have c:=next_any b tb cap ts σ ⟨#[99,97,112]⟩ (by decide) wb Qb.out
      rw [show (⟨#[99,97,112]⟩:ByteArray).data.toList=wCap from rfl] at c
      rw [E1.out] at c
      go_wp2_with fail
      refine c.mono ?_
      rintro e wc ⟨rfl,q,g⟩
      have Qc:=hid q
      have Gc:=hid (grown_trans Gb.out g)
      have Oc:=hid (own_call Ob.out g hb)
      have Yc:=hid (Yb.out.grown g nka)
      clear c q g
      have c:=next_any b tb cap ts σ ⟨#[109,105,110,105,109,117,109]⟩ (by decide) wc Qc.out
      rw [show (⟨#[109,105,110,105,109,117,109]⟩:ByteArray).data.toList=wMinimum from rfl] at c
      rw [E2.out] at c
      go_wp2_with fail
      refine c.mono ?_
      rintro e wd ⟨rfl,q,g⟩
      have Qd:=hid q
      have Gd:=hid (grown_trans Gc.out g)
      have Od:=hid (own_call Oc.out g hb)
      have Yd:=hid (Yc.out.grown g nka)
      clear c q g
      have c:=next_any b tb cap ts σ ⟨#[97,100,100]⟩ (by decide) wd Qd.out
      rw [show (⟨#[97,100,100]⟩:ByteArray).data.toList=wAdd from rfl] at c
      rw [E3.out] at c
      go_wp2_with fail
      refine c.mono ?_
      rintro e we ⟨rfl,q,g⟩
      have Qe:=hid q
      have Ge:=hid (grown_trans Gd.out g)
      have Oe:=hid (own_call Od.out g hb)
      have Ye:=hid (Yd.out.grown g nka)
      clear c q g
      have c:=amount_any b tb cap ts σ.next 4 we Qe.out
      rw [←HN.out] at c
      go_wp2_with fail
      refine c.mono ?_
      rintro e wp ⟨rfl,q,g⟩
      have yp:=Ye.out.grown g nka
      have Gp:=hid (grown_trans Ge.out g)
      have Op:=hid (own_call Oe.out g hb)
      have d0:=yp.cell 0 _ rfl
      have d1:=yp.cell 1 _ rfl
      have d2:=yp.cell 2 _ rfl
      have f0:=yp.free 0
      have f1:=yp.free 1
      have f2:=yp.free 2
      have lk:=yp.lt
      obtain ⟨wq,hwq⟩:∃wq,wq=((wp.setCell ⟨ka,0,none⟩ (.int .i64 4)).setCell ⟨ka,1,none⟩ (.int .i64 N.1)).setCell ⟨ka,2,none⟩ (.int .i64 0):=⟨_,rfl⟩
      have Yq:Bx wq ka [.int .i64 4,.int .i64 N.1,.int .i64 0]:=by rw [hwq];exact ((yp.set 0 _).set 1 _).set 2 _
      have Qq:Rd wq b tb cap ts N.2:=by rw [hwq];exact ((q.far' hb lka _ _).far' hb lka _ _).far' hb lka _ _
      have Gq:w.grownBy wq (some b):=by rw [hwq];exact grown_put (grown_put (grown_put Gp.out lka _ _) lka _ _) lka _ _
      have nv:=fun e=>Nat.lt_irrefl _ (Nat.lt_of_lt_of_eq (NV.out ka e) HKA.out.symm)
      have oq:=ownsRow_setCell_other (ownsRow_setCell_other (ownsRow_setCell_other Op.out (a:=⟨ka,0,none⟩) nv (.int .i64 4)) (a:=⟨ka,1,none⟩) nv (.int .i64 N.1)) (a:=⟨ka,2,none⟩) nv (.int .i64 0)
      rw [←hwq] at oq
      have HWQ:=hid hwq
      have Oq:=hid oq
      have c:=need_any b tb cap ts N.2 ⟨#[59]⟩ (by decide) wq Qq
      rw [show (⟨#[59]⟩:ByteArray).data.toList=sSemi from rfl] at c
      clear q g yp hwq nv oq Qq
      go_wp2_with fail
      rw [←HWQ.out]
      refine c.mono ?_
      rintro e wz ⟨rfl,q,g⟩
      have yz:=Yq.grown g nka
      have Gz:=hid (grown_trans Gq g)
      have oz:=own_call Oq.out g hb
      have Qz:=hid q
      clear d0 d1 d2 f0 f1 f2 lk c q g Yq Gq
      have d0:=yz.cell 0 _ rfl
      have d1:=yz.cell 1 _ rfl
      have d2:=yz.cell 2 _ rfl
      have lk:=yz.lt
      have hbs:w.heap.size≤wz.heap.size:=Gz.out.size
      clear yz
      go_wp2_with (at_builtin;refine wpList_append_own _ rfl _ _ 55 rfl w.heap.size 121 i0 (.agg (adjC ⟨0,0,0⟩).toArray) 3 24 Tryz.underlying55 hi hz0 hz1 hz2 rfl (by decide) _ _ _ rfl (oz.alloc _) ⟨wz.heap.size,0,none⟩ 1 1 (adjC ⟨4,N.1,0⟩) rfl rfl (news_at wz (adjC ⟨4,N.1,0⟩) _) (by simp [adjC,Value.oneCell']) (by unfold maxLen;omega) (by omega) (by simp;omega) ?_)
      intro v5 w5 hown hgrow _
      have nk:=fun (k:Nat) e=>(oz.lt k e).1
      have G5:=hid (grown_own (grown_trans Gz.out (grown_alloc wz _ _)) hgrow nk)
      have Q5:Rd w5 b tb cap ts (wnt ts N.2 sSemi):=(Qz.out.on ((Below.refl _ _).alloc (Nat.le_refl _) _)).other hgrow (fun k e=>by have:=nk k e;omega)
      have O5:=hid hown
      have HQ5:=hid Q5
      clear hown hgrow nk Q5 oz
      go_wp2
      go_roundw
      case rel=>exact ⟨_,wnt ts N.2 sSemi,acc++[⟨4,N.1,0⟩],rfl,hid ⟨HQ5.out,G5.out,by
        simp only [List.length_append,List.length_singleton,List.flatMap_append,List.flatMap_cons,List.flatMap_nil,List.append_nil]
        exact O5.out,hst.out.2.2.2.1.trans ST.out.1,by have h1:=hst.out.2.2.2.2;have h2:=ST.out.2;simp only [List.length_append,List.length_singleton];omega⟩⟩
      case measure=>
       rw [leftOf_rd HQ5.out,leftOf_rd hst.out.1]
       exact left_less HON.out HE.out HQ5.out.ok ST.out.2
     case false=>
      have E3:Hid (tke ts σ wAdd=(false,σ)):=hid (by unfold tke;rw [o3];rfl)
      have hone:oneS ts σ adjWords=(-1,σ):=by rw [ONE.out,o0,o1,o2,o3];rfl
      have ST:=hid (adjs_stop (acc:=acc) OK.out hone)
      clear hone o0 o1 o2 o3
      have c:=next_any b tb cap ts σ ⟨#[112,101,114,99,101,110,116]⟩ (by decide) wa Qa.out
      rw [show (⟨#[112,101,114,99,101,110,116]⟩:ByteArray).data.toList=wPercent from rfl] at c
      rw [E0.out] at c
      go_wp2_with fail
      rw [HWA.out]
      refine c.mono ?_
      rintro e wb ⟨rfl,q,g⟩
      have Qb:=hid q
      have Gb:=hid (grown_trans Ga.out g)
      have Ob:=hid (own_call Oa.out g hb)
      clear c q g
      have c:=next_any b tb cap ts σ ⟨#[99,97,112]⟩ (by decide) wb Qb.out
      rw [show (⟨#[99,97,112]⟩:ByteArray).data.toList=wCap from rfl] at c
      rw [E1.out] at c
      go_wp2_with fail
      refine c.mono ?_
      rintro e wc ⟨rfl,q,g⟩
      have Qc:=hid q
      have Gc:=hid (grown_trans Gb.out g)
      have Oc:=hid (own_call Ob.out g hb)
      clear c q g
      have c:=next_any b tb cap ts σ ⟨#[109,105,110,105,109,117,109]⟩ (by decide) wc Qc.out
      rw [show (⟨#[109,105,110,105,109,117,109]⟩:ByteArray).data.toList=wMinimum from rfl] at c
      rw [E2.out] at c
      go_wp2_with fail
      refine c.mono ?_
      rintro e wd ⟨rfl,q,g⟩
      have Qd:=hid q
      have Gd:=hid (grown_trans Gc.out g)
      have Od:=hid (own_call Oc.out g hb)
      clear c q g
      have c:=next_any b tb cap ts σ ⟨#[97,100,100]⟩ (by decide) wd Qd.out
      rw [show (⟨#[97,100,100]⟩:ByteArray).data.toList=wAdd from rfl] at c
      rw [E3.out] at c
      go_wp2_with fail
      refine c.mono ?_
      rintro e we ⟨rfl,q,g⟩
      have Qe:=hid q
      have Ge:=hid (grown_trans Gd.out g)
      have Oe:=hid (own_call Od.out g hb)
      clear c q g
      go_wp2
      go_ret
      refine ⟨_,rfl,?_,?_,Ge.out⟩
      ·rw [hst.out.2.2.2.1,ST.out];exact Oe.out
      ·rw [hst.out.2.2.2.1,ST.out];exact Qe.out
end Pa
namespace Pa
open Go.RowKit Go.Sort P Tl Mm Md
structure Mk (w0 W:World) (b tb cap:Nat) (ts:List Tok) (kr kc:Nat) (zs cs:List Value) (s:St):Prop where
 rd:Rd W b tb cap ts s
 box:Bx W kc cs
 res:Bx W kr zs
 gr:w0.grownBy W (some b)
 lb:b<w0.heap.size
 lr:w0.heap.size≤kr
 lc:w0.heap.size≤kc
 rc:kr≠kc
section
variable {w0 W W':World} {b tb cap:Nat} {ts:List Tok} {kr kc:Nat} {zs cs:List Value} {s s':St}
theorem Mk.call (h:Mk w0 W b tb cap ts kr kc zs cs s) (q:Rd W' b tb cap ts s') (g:W.grownBy W' (some b)):Mk w0 W' b tb cap ts kr kc zs cs s':=
 ⟨q,h.box.grown g (fun e=>by have:=Option.some.inj e;have:=h.lb;have:=h.lc;omega),h.res.grown g (fun e=>by have:=Option.some.inj e;have:=h.lb;have:=h.lr;omega),grown_trans h.gr g,h.lb,h.lr,h.lc,h.rc⟩
theorem Mk.put (h:Mk w0 W b tb cap ts kr kc zs cs s) (i:Nat) (u:Value):Mk w0 (W.setCell ⟨kc,i,none⟩ u) b tb cap ts kr kc zs (cs.set i u) s:=
 ⟨h.rd.far' h.lb h.lc _ _,h.box.set i u,h.res.other (p:=⟨kc,i,none⟩) h.rc u,grown_put h.gr h.lc _ _,h.lb,h.lr,h.lc,h.rc⟩
theorem Mk.new {w:World} (h:Rd w b tb cap ts s) (t:TypeId) (zs cs:List Value):Mk w ((w.alloc (.cells zs.toArray t)).alloc (.cells cs.toArray t)) b tb cap ts w.heap.size (w.heap.size+1) zs cs s:=by
 have b0:Below w.heap.size w (w.alloc (.cells zs.toArray t)):=(Below.refl _ _).alloc (Nat.le_refl _) _
 have b1:Below (w.alloc (.cells zs.toArray t)).heap.size (w.alloc (.cells zs.toArray t)) ((w.alloc (.cells zs.toArray t)).alloc (.cells cs.toArray t)):=(Below.refl _ _).alloc (Nat.le_refl _) _
 have B:=Bx.new (w.alloc (.cells zs.toArray t)) cs t
 have e:(w.alloc (.cells zs.toArray t)).heap.size=w.heap.size+1:=by simp
 rw [e] at B
 exact ⟨(h.on b0).on b1,B,(Bx.new w zs t).on b1,grown_trans (grown_below b0) (grown_below b1),h.lt,Nat.le_refl _,by omega,by omega⟩
theorem Mk.puts:∀(vs:List Value) (o:Nat) {W:World},Rd W b tb cap ts s∧w0.grownBy W (some b)→b<w0.heap.size→w0.heap.size≤kr→Rd (W.setCells kr o vs) b tb cap ts s∧w0.grownBy (W.setCells kr o vs) (some b)
 | [],_,_,h,_,_=>h
 | v::r,o,_,h,h1,h2=>Mk.puts r (o+1) ⟨h.1.far' h1 h2 o v,grown_put h.2 h2 o v⟩ h1 h2
end
theorem meter_any (b tb cap:Nat) (ts:List Tok) (s:St) (w:World) (h:Rd w b tb cap ts s) :
  Calls Tryz.prog 149 #[.pointer (some ⟨b,0,none⟩)] w fun x w'=>x=.returned (.agg (meterC (meterS ts s 0 0).1).toArray)∧Rd w' b tb cap ts (meterS ts s 0 0).2∧w.grownBy w' (some b):=by
 obtain ⟨a,ha⟩:∃a,a=tkn ts s 1:=⟨_,rfl⟩
 obtain ⟨s1,hs1⟩:∃s1,s1=wnt ts a.2 wUnit:=⟨_,rfl⟩
 obtain ⟨u,hu⟩:∃u,u=tkn ts s1 1:=⟨_,rfl⟩
 obtain ⟨s2,hs2⟩:∃s2,s2=wnt ts u.2 wMax:=⟨_,rfl⟩
 obtain ⟨n,hn⟩:∃n,n=numS ts s2 0 2000:=⟨_,rfl⟩
 obtain ⟨s3,hs3⟩:∃s3,s3=wnt ts n.2 sSemi:=⟨_,rfl⟩
 obtain ⟨nm,hnm⟩:∃nm:ByteArray,nm=⟨a.1.toArray⟩:=⟨_,rfl⟩
 obtain ⟨un,hun⟩:∃un:ByteArray,un=⟨u.1.toArray⟩:=⟨_,rfl⟩
 have e:meterS ts s 0 0=(⟨nm,un,n.1,0,0⟩,s3):=by rw [hs3,hn,hs2,hun,hu,hs1,hnm,ha];rfl
 rw [e]
 have HA:=hid ha
 have HS1:=hid hs1
 have HU:=hid hu
 have HS2:=hid hs2
 have HN:=hid hn
 have HS3:=hid hs3
 have HNM:=hid hnm
 have HUN:=hid hun
 clear e ha hs1 hu hs2 hn hs3 hnm hun
 obtain ⟨kr,hkr⟩:∃kr,kr=w.heap.size:=⟨_,rfl⟩
 obtain ⟨kc,hkc⟩:∃kc,kc=w.heap.size+1:=⟨_,rfl⟩
 obtain ⟨zs,hzs⟩:∃zs:List Value,zs=[.string ⟨#[]⟩,.string ⟨#[]⟩,.int .i64 0,.int .i64 0,.int .i64 0]:=⟨_,rfl⟩
 obtain ⟨w0,hw0⟩:∃w0,w0=w.alloc (.cells #[.string ⟨#[]⟩,.string ⟨#[]⟩,.int .i64 0,.int .i64 0,.int .i64 0] 49):=⟨_,rfl⟩
 obtain ⟨w1,hw1⟩:∃w1,w1=w0.alloc (.cells #[.string ⟨#[]⟩,.string ⟨#[]⟩,.int .i64 0,.int .i64 0,.int .i64 0] 49):=⟨_,rfl⟩
 have M1:Hid (Mk w w1 b tb cap ts kr kc zs [.string ⟨#[]⟩,.string ⟨#[]⟩,.int .i64 0,.int .i64 0,.int .i64 0] s):=hid (by rw [hw1,hw0,hkr,hkc,hzs];exact Mk.new h 49 [.string ⟨#[]⟩,.string ⟨#[]⟩,.int .i64 0,.int .i64 0,.int .i64 0] [.string ⟨#[]⟩,.string ⟨#[]⟩,.int .i64 0,.int .i64 0,.int .i64 0])
 have HKR:=hid hkr
 have HKC:=hid hkc
 have HZS:=hid hzs
 have HW0:=hid hw0
 have HW1:=hid hw1
 clear hkr hkc hzs hw0 hw1 h
 go_enter Tryz.func149,Tryz.ntmps149
 have c:=name_any b tb cap ts s w1 M1.out.rd
 rw [←HA.out,←HNM.out] at c
 go_wp2_with fail
 rw [←HW0.out,←HW1.out,←HKC.out,←HKR.out]
 refine c.mono ?_
 rintro e w2 ⟨rfl,q,g⟩
 have C:=M1.out.call q g
 have d0:=C.box.cell 0 _ rfl
 have f0:=C.box.free 0
 have lk:=C.box.lt
 obtain ⟨w3,hw3⟩:∃w3,w3=(w2.setCell ⟨kc,0,none⟩ (.string nm)):=⟨_,rfl⟩
 have M3:Hid (Mk w w3 b tb cap ts kr kc zs [.string nm,.string ⟨#[]⟩,.int .i64 0,.int .i64 0,.int .i64 0] a.2):=hid (by rw [hw3];exact (C.put 0 _))
 have HW3:=hid hw3
 clear c q g C hw3
 have c:=need_any b tb cap ts a.2 ⟨#[117,110,105,116]⟩ (by decide) w3 M3.out.rd
 rw [show (⟨#[117,110,105,116]⟩:ByteArray).data.toList=wUnit from rfl,←HS1.out] at c
 go_wp2_with fail
 rw [←HW3.out]
 clear d0 f0 lk
 refine c.mono ?_
 rintro e w4 ⟨rfl,q,g⟩
 have M4:=hid (M3.out.call q g)
 clear c q g M3
 have c:=name_any b tb cap ts s1 w4 M4.out.rd
 rw [←HU.out,←HUN.out] at c
 go_wp2_with fail
 refine c.mono ?_
 rintro e w5 ⟨rfl,q,g⟩
 have C:=M4.out.call q g
 have d0:=C.box.cell 1 _ rfl
 have f0:=C.box.free 1
 have lk:=C.box.lt
 obtain ⟨w6,hw6⟩:∃w6,w6=(w5.setCell ⟨kc,1,none⟩ (.string un)):=⟨_,rfl⟩
 have M6:Hid (Mk w w6 b tb cap ts kr kc zs [.string nm,.string un,.int .i64 0,.int .i64 0,.int .i64 0] u.2):=hid (by rw [hw6];exact (C.put 1 _))
 have HW6:=hid hw6
 clear c q g C hw6
 have c:=need_any b tb cap ts u.2 ⟨#[109,97,120]⟩ (by decide) w6 M6.out.rd
 rw [show (⟨#[109,97,120]⟩:ByteArray).data.toList=wMax from rfl,←HS2.out] at c
 go_wp2_with fail
 rw [←HW6.out]
 clear d0 f0 lk
 refine c.mono ?_
 rintro e w7 ⟨rfl,q,g⟩
 have M7:=hid (M6.out.call q g)
 clear c q g M6
 have c:=whole_any b tb cap ts s2 2000 w7 M7.out.rd
 rw [←HN.out] at c
 go_wp2_with fail
 refine c.mono ?_
 rintro e w8 ⟨rfl,q,g⟩
 have C:=M7.out.call q g
 have d0:=C.box.cell 2 _ rfl
 have f0:=C.box.free 2
 have lk:=C.box.lt
 obtain ⟨w9,hw9⟩:∃w9,w9=(w8.setCell ⟨kc,2,none⟩ (.int .i64 n.1)):=⟨_,rfl⟩
 have M9:Hid (Mk w w9 b tb cap ts kr kc zs [.string nm,.string un,.int .i64 n.1,.int .i64 0,.int .i64 0] n.2):=hid (by rw [hw9];exact (C.put 2 _))
 have HW9:=hid hw9
 clear c q g C hw9
 have c:=need_any b tb cap ts n.2 ⟨#[59]⟩ (by decide) w9 M9.out.rd
 rw [show (⟨#[59]⟩:ByteArray).data.toList=sSemi from rfl,←HS3.out] at c
 go_wp2_with fail
 rw [←HW9.out]
 clear d0 f0 lk
 refine c.mono ?_
 rintro e w10 ⟨rfl,q,g⟩
 have M10:=hid (M9.out.call q g)
 clear c q g M9
 have rx:Hid (w10.rangeAt kc 0 [.string nm,.string un,.int .i64 n.1,.int .i64 0,.int .i64 0]):=hid (range_of M10.out.box.cell)
 have rz:Hid (w10.there kr 0 5):=hid (there_of M10.out.res.cell M10.out.res.free (n:=5) (by rw [HZS.out];rfl))
 go_wp2_with (first
  | (with_reducible refine wpList_load_mid (op:=Oper.mk (some 19) (Op.load 49 (Operand.tmp 3)) _ _ _ _) ?_ 49 (.tmp 3) ?_ kc 0 ?_ [.string nm,.string un,.int .i64 n.1,.int .i64 0,.int .i64 0] _ rx.out Tryz.underlying49 ?_ ?_ ?_;rfl;rfl;go_simp;rfl;kernel_rfl)
  | (with_reducible refine wpList_store_mid (op:=Oper.mk none (Op.store 49 (Operand.tmp 2) (Operand.tmp 19)) _ _ _ _) ?_ 49 (.tmp 2) (.tmp 19) ?_ kr 0 #[.string nm,.string un,.int .i64 n.1,.int .i64 0,.int .i64 0] ?_ ?_ ?_ ?_ ?_ ?_;rfl;rfl;go_simp;go_simp;(simpa using rz.out);kernel_rfl;(simp [Value.oneCell']))
  | fail)
 have rr:(w10.setCells kr 0 [.string nm,.string un,.int .i64 n.1,.int .i64 0,.int .i64 0]).rangeAt kr 0 [.string nm,.string un,.int .i64 n.1,.int .i64 0,.int .i64 0]:=World.rangeAt_setCells_same _ _ _ _ rz.out
 have FF:=Mk.puts [.string nm,.string un,.int .i64 n.1,.int .i64 0,.int .i64 0] 0 ⟨M10.out.rd,M10.out.gr⟩ M10.out.lb M10.out.lr
 refine bodyPost_ret (v:=.agg #[.string nm,.string un,.int .i64 n.1,.int .i64 0,.int .i64 0]) ?_ rfl ?_
 ·exact results_mid rfl _ _ kr [.string nm,.string un,.int .i64 n.1,.int .i64 0,.int .i64 0] _ rfl rr Tryz.underlying49 rfl (by kernel_rfl)
 exact ⟨rfl,FF.1,FF.2⟩
theorem fee_any (b tb cap:Nat) (ts:List Tok) (s:St) (w:World) (h:Rd w b tb cap ts s) :
  Calls Tryz.prog 150 #[.pointer (some ⟨b,0,none⟩)] w fun x w'=>x=.returned (.agg (feeC (feeS ts s 0 0).1).toArray)∧Rd w' b tb cap ts (feeS ts s 0 0).2∧w.grownBy w' (some b):=by
 obtain ⟨n,hn⟩:∃n,n=numS ts s 0 1000000000000:=⟨_,rfl⟩
 obtain ⟨wn,hwn⟩:∃wn,wn=winS ts n.2:=⟨_,rfl⟩
 obtain ⟨s3,hs3⟩:∃s3,s3=wnt ts wn.2 sSemi:=⟨_,rfl⟩
 obtain ⟨x,hx⟩:∃x,x=wn.1:=⟨_,rfl⟩
 have e:feeS ts s 0 0=(⟨n.1,x,0,0⟩,s3):=by rw [hs3,hx,hwn,hn];rfl
 rw [e]
 have HN:=hid hn
 have HWN:=hid hwn
 have HS3:=hid hs3
 have HX:=hid hx
 clear e hn hwn hs3 hx
 obtain ⟨kr,hkr⟩:∃kr,kr=w.heap.size:=⟨_,rfl⟩
 obtain ⟨kc,hkc⟩:∃kc,kc=w.heap.size+1:=⟨_,rfl⟩
 obtain ⟨zs,hzs⟩:∃zs:List Value,zs=[.int .i64 0,.bool false,.int .i64 0,.int .i64 0,.int .i64 0,.int .i64 0,.int .i64 0,.int .i64 0,.int .i64 0,.int .i64 0]:=⟨_,rfl⟩
 obtain ⟨w0,hw0⟩:∃w0,w0=w.alloc (.cells #[.int .i64 0,.bool false,.int .i64 0,.int .i64 0,.int .i64 0,.int .i64 0,.int .i64 0,.int .i64 0,.int .i64 0,.int .i64 0] 53):=⟨_,rfl⟩
 obtain ⟨w1,hw1⟩:∃w1,w1=w0.alloc (.cells #[.int .i64 0,.bool false,.int .i64 0,.int .i64 0,.int .i64 0,.int .i64 0,.int .i64 0,.int .i64 0,.int .i64 0,.int .i64 0] 53):=⟨_,rfl⟩
 have M1:Hid (Mk w w1 b tb cap ts kr kc zs [.int .i64 0,.bool false,.int .i64 0,.int .i64 0,.int .i64 0,.int .i64 0,.int .i64 0,.int .i64 0,.int .i64 0,.int .i64 0] s):=hid (by rw [hw1,hw0,hkr,hkc,hzs];exact Mk.new h 53 [.int .i64 0,.bool false,.int .i64 0,.int .i64 0,.int .i64 0,.int .i64 0,.int .i64 0,.int .i64 0,.int .i64 0,.int .i64 0] [.int .i64 0,.bool false,.int .i64 0,.int .i64 0,.int .i64 0,.int .i64 0,.int .i64 0,.int .i64 0,.int .i64 0,.int .i64 0])
 have HKR:=hid hkr
 have HKC:=hid hkc
 have HZS:=hid hzs
 have HW0:=hid hw0
 have HW1:=hid hw1
 clear hkr hkc hzs hw0 hw1 h
 go_enter Tryz.func150,Tryz.ntmps150
 have c:=whole_any b tb cap ts s 1000000000000 w1 M1.out.rd
 rw [←HN.out] at c
 go_wp2_with fail
 rw [←HW0.out,←HW1.out,←HKC.out,←HKR.out]
 refine c.mono ?_
 rintro e w2 ⟨rfl,q,g⟩
 have C:=M1.out.call q g
 have d0:=C.box.cell 0 _ rfl
 have f0:=C.box.free 0
 have lk:=C.box.lt
 obtain ⟨w3,hw3⟩:∃w3,w3=(w2.setCell ⟨kc,0,none⟩ (.int .i64 n.1)):=⟨_,rfl⟩
 have M3:Hid (Mk w w3 b tb cap ts kr kc zs [.int .i64 n.1,.bool false,.int .i64 0,.int .i64 0,.int .i64 0,.int .i64 0,.int .i64 0,.int .i64 0,.int .i64 0,.int .i64 0] n.2):=hid (by rw [hw3];exact (C.put 0 _))
 have HW3:=hid hw3
 clear c q g C hw3
 have c:=window_any b tb cap ts n.2 w3 M3.out.rd
 rw [←HWN.out,←HX.out,winV] at c
 go_wp2_with fail
 rw [←HW3.out]
 clear d0 f0 lk
 refine c.mono ?_
 rintro e w4 ⟨rfl,q,g⟩
 have C:=M3.out.call q g
 have d0:=C.box.cell 1 _ rfl
 have f0:=C.box.free 1
 have d1:=C.box.cell 2 _ rfl
 have f1:=C.box.free 2
 have d2:=C.box.cell 3 _ rfl
 have f2:=C.box.free 3
 have d3:=C.box.cell 4 _ rfl
 have f3:=C.box.free 4
 have d4:=C.box.cell 5 _ rfl
 have f4:=C.box.free 5
 have d5:=C.box.cell 6 _ rfl
 have f5:=C.box.free 6
 have d6:=C.box.cell 7 _ rfl
 have f6:=C.box.free 7
 have lk:=C.box.lt
 obtain ⟨w5,hw5⟩:∃w5,w5=(((((((w4.setCell ⟨kc,1,none⟩ (.bool x.has)).setCell ⟨kc,2,none⟩ (.int .i64 x.a.y)).setCell ⟨kc,3,none⟩ (.int .i64 x.a.m)).setCell ⟨kc,4,none⟩ (.int .i64 x.a.d)).setCell ⟨kc,5,none⟩ (.int .i64 x.b.y)).setCell ⟨kc,6,none⟩ (.int .i64 x.b.m)).setCell ⟨kc,7,none⟩ (.int .i64 x.b.d)):=⟨_,rfl⟩
 have M5:Hid (Mk w w5 b tb cap ts kr kc zs [.int .i64 n.1,.bool x.has,.int .i64 x.a.y,.int .i64 x.a.m,.int .i64 x.a.d,.int .i64 x.b.y,.int .i64 x.b.m,.int .i64 x.b.d,.int .i64 0,.int .i64 0] wn.2):=hid (by rw [hw5];exact (((((((C.put 1 _).put 2 _).put 3 _).put 4 _).put 5 _).put 6 _).put 7 _))
 have HW5:=hid hw5
 clear c q g C hw5
 have c:=need_any b tb cap ts wn.2 ⟨#[59]⟩ (by decide) w5 M5.out.rd
 rw [show (⟨#[59]⟩:ByteArray).data.toList=sSemi from rfl,←HS3.out] at c
 go_wp2_with fail
 rw [←HW5.out]
 clear d0 f0 d1 f1 d2 f2 d3 f3 d4 f4 d5 f5 d6 f6 lk
 refine c.mono ?_
 rintro e w6 ⟨rfl,q,g⟩
 have M6:=hid (M5.out.call q g)
 clear c q g M5
 have rx:Hid (w6.rangeAt kc 0 [.int .i64 n.1,.bool x.has,.int .i64 x.a.y,.int .i64 x.a.m,.int .i64 x.a.d,.int .i64 x.b.y,.int .i64 x.b.m,.int .i64 x.b.d,.int .i64 0,.int .i64 0]):=hid (range_of M6.out.box.cell)
 have rz:Hid (w6.there kr 0 10):=hid (there_of M6.out.res.cell M6.out.res.free (n:=10) (by rw [HZS.out];rfl))
 go_wp2_with (first
  | (with_reducible refine wpList_load_mid (op:=Oper.mk (some 12) (Op.load 53 (Operand.tmp 3)) _ _ _ _) ?_ 53 (.tmp 3) ?_ kc 0 ?_ [.int .i64 n.1,.bool x.has,.int .i64 x.a.y,.int .i64 x.a.m,.int .i64 x.a.d,.int .i64 x.b.y,.int .i64 x.b.m,.int .i64 x.b.d,.int .i64 0,.int .i64 0] _ rx.out Tryz.underlying53 ?_ ?_ ?_;rfl;rfl;go_simp;rfl;kernel_rfl)
  | (with_reducible refine wpList_store_mid (op:=Oper.mk none (Op.store 53 (Operand.tmp 2) (Operand.tmp 12)) _ _ _ _) ?_ 53 (.tmp 2) (.tmp 12) ?_ kr 0 #[.int .i64 n.1,.bool x.has,.int .i64 x.a.y,.int .i64 x.a.m,.int .i64 x.a.d,.int .i64 x.b.y,.int .i64 x.b.m,.int .i64 x.b.d,.int .i64 0,.int .i64 0] ?_ ?_ ?_ ?_ ?_ ?_;rfl;rfl;go_simp;go_simp;(simpa using rz.out);kernel_rfl;(simp [Value.oneCell']))
  | fail)
 have rr:(w6.setCells kr 0 [.int .i64 n.1,.bool x.has,.int .i64 x.a.y,.int .i64 x.a.m,.int .i64 x.a.d,.int .i64 x.b.y,.int .i64 x.b.m,.int .i64 x.b.d,.int .i64 0,.int .i64 0]).rangeAt kr 0 [.int .i64 n.1,.bool x.has,.int .i64 x.a.y,.int .i64 x.a.m,.int .i64 x.a.d,.int .i64 x.b.y,.int .i64 x.b.m,.int .i64 x.b.d,.int .i64 0,.int .i64 0]:=World.rangeAt_setCells_same _ _ _ _ rz.out
 have FF:=Mk.puts [.int .i64 n.1,.bool x.has,.int .i64 x.a.y,.int .i64 x.a.m,.int .i64 x.a.d,.int .i64 x.b.y,.int .i64 x.b.m,.int .i64 x.b.d,.int .i64 0,.int .i64 0] 0 ⟨M6.out.rd,M6.out.gr⟩ M6.out.lb M6.out.lr
 refine bodyPost_ret (v:=.agg #[.int .i64 n.1,.bool x.has,.int .i64 x.a.y,.int .i64 x.a.m,.int .i64 x.a.d,.int .i64 x.b.y,.int .i64 x.b.m,.int .i64 x.b.d,.int .i64 0,.int .i64 0]) ?_ rfl ?_
 ·exact results_mid rfl _ _ kr [.int .i64 n.1,.bool x.has,.int .i64 x.a.y,.int .i64 x.a.m,.int .i64 x.a.d,.int .i64 x.b.y,.int .i64 x.b.m,.int .i64 x.b.d,.int .i64 0,.int .i64 0] _ rfl rr Tryz.underlying53 rfl (by kernel_rfl)
 exact ⟨rfl,FF.1,FF.2⟩
end Pa
end Go.Proofs.YtofbobdhkbmbgaaGreatDoor
