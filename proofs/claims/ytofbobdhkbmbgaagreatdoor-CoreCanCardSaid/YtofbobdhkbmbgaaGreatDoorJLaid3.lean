/- What the listed tables, and the world's shape, give the walks of layer 7: the modes' words, the powers of ten, and some number MaxLen. -/
import Derived.Test.YtofbobdhkbmbgaaGreatDoorJDate3
import Derived.Lib.LaidTab
import Derived.MakeChecks
import Derived.Stop.LaidErr
import Derived.HandedShaped
import Derived.Lay
namespace Go.Proofs.YtofbobdhkbmbgaaGreatDoor.Ld
open Go.RowKit
theorem own:ownKnob Tryz.prog.godebug=none:=by kernel_rfl
/-- An array of texts that reads as these letters holds these texts, cell for cell. -/
theorem cells_of_strs {H:Type} {enc:TypeId × Value→H} {P:Program} {w:World} {base:Nat} {sp:Nat→Bool} {held:Bool} {fuel:Nat} {t e:TypeId} {n:Nat} {cs:List Value} {zs:List (List UInt8)} {p:List MemPlace}
  (ht:P.underlying t=some (.array n e)) (he:P.underlying e=some .string) (hce:P.cellsOf e=1) (hct:P.cellsOf t=n)
  (h:DataW.trod enc P w base sp held fuel t cs=some (.agg (zs.map fun z=>.lit (.string z)),p)):cs=zs.map fun z=>Value.string ⟨z.toArray⟩:=by
 cases fuel with
 | zero=>simp [DataW.trod] at h
 | succ fuel=>
   simp only [DataW.trod,ht,hce,hct,Nat.mul_one] at h
   split at h
   ·rename_i hl
    obtain ⟨xs,hm,hx⟩:=Option.map_eq_some_iff.1 h
    have hxs:xs.map (·.1)=zs.map fun z=>(DataW.lit (.string z):DataW H):=by
     have:=congrArg Prod.fst hx
     simpa using this
    have hxl:xs.length=n:=by simpa using Lib.mapM_length hm
    have hzl:zs.length=n:=by
     have:=congrArg List.length hxs
     simp at this
     omega
    apply List.ext_getElem?
    intro i
    by_cases hi:i<n
    ·obtain ⟨b,hb,hf⟩:=Lib.mapM_at hm i i (by simp [hi])
     obtain ⟨z,hc,rfl,_⟩:=DataW.trod_string he hf
     have h1:cs[i]?=some (.string z):=by
      have:=congrArg (·[0]?) hc
      simpa [List.getElem?_take,List.getElem?_drop] using this
     have h2:(xs.map (·.1))[i]?=some (DataW.lit (.string z.data.toList):DataW H):=by simp [hb]
     rw [hxs] at h2
     simp only [List.getElem?_map,Option.map_eq_some_iff,DataW.lit.injEq,Lit.string.injEq] at h2
     obtain ⟨z',hz',hzz⟩:=h2
     subst hzz
     simp [h1,hz']
    ·rw [List.getElem?_eq_none (by omega),List.getElem?_eq_none (by simp;omega)]
   ·cases h
theorem md_of {W : World} {rest : List (String × DataW Unit)} (h : laidMet Tryz.prog (("poundage/parse.modes", .agg (P.modes.map fun z => .lit (.string z))) :: rest) W) : Pa.Md W := by
 obtain ⟨ps,⟨g',t',cs,fuel,p,q,hg',ht',hvar,hd,_,_⟩,_⟩:=h
 have hg : Tryz.prog.globalNamed "poundage/parse.modes" = some 1 := by kernel_rfl
 obtain rfl:=Option.some.inj (hg.symm.trans hg')
 obtain rfl:=Option.some.inj ((show (Tryz.prog.globals[1]?).map (·.type)=some 237 by kernel_rfl).symm.trans ht')
 have hca:cs=(P.modes.map fun z=>Value.string ⟨z.toArray⟩).toArray:=by rw [←cells_of_strs (e:=9) (n:=4) (by kernel_rfl) (by kernel_rfl) (by kernel_rfl) (by kernel_rfl) hd]
 rw [hca] at hvar
 intro j l hj
 have:=World.var?_cell hg hvar j
 rw [this]
 simp [hj]
theorem ky_of {W : World} {a : String × DataW Unit} (ha : a = ("poundage/parse.modes", .agg (P.modes.map fun z => .lit (.string z)))) (hp : ([a].all fun x => x.2.handleName?.isNone) = true)
  (h:laidMetH Tryz.prog [a] W) (hs:W.ShapedOpen Tryz.prog):Pa.Ky W:=by
 rw [MakeChecks.laidMetH_plain _ _ _ hp] at h
 subst ha
 exact ⟨Dc.mx_of hs,md_of h⟩
set_option maxRecDepth 100000 in
/-- The wrap of a row that lists variables, with the world's shape kept for the contract. -/
theorem returns {H:Type} {enc:TypeId × Value→H} {os:Os} {f:FuncId} {fn:Func} {s:ChangeSpec} {conds:List PathCond} {apart fresh handsOn again:Bool} {X:World→Array Value→Prop}
  (hX:∀(w w':World) (args:Array Value),w.heap=w'.heap→X w args→X w' args)
  (started:os.Started) (noInit:Tryz.checked.prog.inits.idxOf? f=none) (hfn:Tryz.checked.prog.funcs[f]?=some fn)
  (witness:∃(w:World) (tape:Tape) (i:Input),w.os=os∧(w.forCall tape i).Shaped Tryz.checked.prog∧i.vars=[]∧Input.okWide Tryz.checked.prog (w.forCall tape i) .any w.heap.size f i∧
   ((s.pre enc Tryz.checked.prog fn conds apart (w.forCall tape i).memory i.args∧X (w.forCall tape i).memory i.args)∧sizedMet enc Tryz.checked.prog fn (OpenSpec.ofChange s) apart (w.forCall tape i).memory i.args)∧({} : Assume).holds Tryz.checked.prog (lone (Frame.enter Tryz.checked.prog f i.args .normal) [] (w.forCall tape i)))
  (contract:∀(W:World) (base:Nat) (args:Array Value) (ds gs:List (DataW H)) (before:List MemPlace),
   (∀(j:Nat) t v,fn.params[j]?=some t→args[j]?=some v→Value.okWide Tryz.checked.prog W .any base t v)→
   DataW.Whole enc Tryz.checked.prog fn.params.toList s.vars apart W args.toList ds gs before→
   (DataW.weightsEach Tryz.checked.prog (fn.params.toList++s.plain.varTypes Tryz.checked.prog) (ds++gs)).all (·≤reachBytes)=true→X W args→W.ShapedOpen Tryz.checked.prog→
   Calls Tryz.checked.prog f args W fun e W'=>∃v,e=.returned v∧s.post enc Tryz.checked.prog fn apart fresh handsOn again W args v W') :
  ReturnsInHanded {} Tryz.checked os f .any (fun w args=>(s.pre enc Tryz.checked.prog fn conds apart w args∧X w args)∧sizedMet enc Tryz.checked.prog fn (OpenSpec.ofChange s) apart w args) (s.post enc Tryz.checked.prog fn apart fresh handsOn again):=by
 refine returnsInHanded_of_calls own started noInit witness ?_
 intro w tape i _ hsh _ hok hpre _
 obtain ⟨_,_,_,fn',hfn',_,_,_,_,hval⟩:=hok
 obtain rfl:fn'=fn:=Option.some.inj (hfn'.symm.trans hfn)
 obtain ⟨⟨⟨ds,gs,before,hw,_⟩,hx⟩,hz⟩:=hpre
 have hw':=DataW.Whole.of_heap (w':=w.forCall tape i) (by rfl) hw
 refine (contract (w.forCall tape i) w.heap.size i.args ds gs before hval hw' (hz.weights hw) (hX _ _ _ (by rfl) hx) hsh).mono fun e W' ⟨v,he,hp⟩=>?_
 subst he
 exact ChangeSpec.post_blind hp
end Go.Proofs.YtofbobdhkbmbgaaGreatDoor.Ld
