import Derived.Test.YtnhkkhiajiiahaaGreatDoorRows
import Derived.Test.YtnhkkhiajiiahaaGreatDoorShaM
import Derived.ProofKit
import Derived.LaidMore
import Derived.OpenShut
import Derived.MakeChecks
import Derived.FnData
namespace Go.Proofs.YtnhkkhiajiiahaaGreatDoor
open Go.ChangeShapes Go.WideShapes Go.ChangeAt Go.RowKit
set_option linter.unusedVariables false
set_option maxRecDepth 20000 in
theorem gFirst:Tryz.prog.globalNamed "cofferdam/cofferdamref05.first" =some 0:=by kernel_rfl
set_option maxRecDepth 20000 in
theorem gRound:Tryz.prog.globalNamed "cofferdam/cofferdamref05.round" =some 2:=by kernel_rfl
set_option maxRecDepth 20000 in
theorem gConst:Tryz.prog.globalNamed "cofferdam/sha.constants" =some 1:=by kernel_rfl
set_option maxRecDepth 20000 in
theorem tFirst:(Tryz.prog.globals[0]?).map (·.type)=some 222:=by kernel_rfl
set_option maxRecDepth 20000 in
theorem tRound:(Tryz.prog.globals[2]?).map (·.type)=some 253:=by kernel_rfl
set_option maxRecDepth 20000 in
theorem tConst:(Tryz.prog.globals[1]?).map (·.type)=some 253:=by kernel_rfl
set_option maxRecDepth 20000 in
theorem cells150:Tryz.prog.cellsOf 150=1:=by kernel_rfl
set_option maxRecDepth 20000 in
theorem dFirst:(Rows.laid_cofferdam_cofferdamref05_first:DataW Unit)=.agg (iL.map fun x=>.lit (.int .u32 x)):=rfl
set_option maxRecDepth 20000 in
theorem dRound:(Rows.laid_cofferdam_cofferdamref05_round:DataW Unit)=.agg (kL.map fun x=>.lit (.int .u32 x)):=rfl
set_option maxRecDepth 20000 in
theorem dConst:(Rows.laid_cofferdam_sha_constants:DataW Unit)=.agg (kL.map fun x=>.lit (.int .u32 x)):=rfl
set_option maxRecDepth 20000 in
theorem words_laid {H:Type}{enc:TypeId×Value→H}{W:World}{sp:Nat→Bool}{held:Bool}{fuel:Nat}{t:TypeId}{n g:Nat}{cs:Array Value}{L:List Int}{p:List MemPlace}(hu:Tryz.prog.underlying t=some (.array n 150))
 (hcell:∀i,W.cell? ⟨g,i,none⟩=cs[i]?)(hd:DataW.trod enc Tryz.prog W 0 sp held fuel t cs.toList=some (.agg (L.map fun x=>.lit (.int .u32 x)),p)):
 ∀i,i<n→W.cell? ⟨g,i,none⟩=some (.int .u32 (L.getD i 0)):=by
 obtain⟨xs,m,rfl,hx,hlen,hn,hel⟩:=DataW.trod_array hu hd
 simp only[Prod.mk.injEq,DataW.agg.injEq]at hx
 intro i hi
 have h:=hel i hi
 rw[cells150,Nat.mul_one]at h
 have hxi:i<xs.length:=by omega
 rw[List.getElem?_eq_getElem hxi]at h
 obtain⟨k,e1,e2,_⟩:=DataW.trod_int Tryz.underlying150 h
 have hL:=congrArg (fun l=>l[i]?) hx.1
 simp only[List.getElem?_map,List.getElem?_eq_getElem hxi,Option.map_some]at hL
 rw[e2]at hL
 cases hLi:L[i]? with
 |none=>rw[hLi]at hL;cases hL
 |some x=>
  rw[hLi]at hL
  simp only[Option.map_some,Option.some.injEq,DataW.lit.injEq,Lit.int.injEq,true_and]at hL
  subst hL
  rw[hcell i,List.getD_eq_getElem?_getD,hLi,Option.getD_some]
  have h0:=congrArg (fun l=>l[0]?) e1
  simp only[List.getElem?_take_of_lt (show 0<1 by omega),List.getElem?_drop,Nat.add_zero,List.getElem?_cons_zero]at h0
  rw[←h0,Array.getElem?_toList]
def laid3:List (String×DataW Unit):=[("cofferdam/cofferdamref05.first",Rows.laid_cofferdam_cofferdamref05_first),("cofferdam/cofferdamref05.round",Rows.laid_cofferdam_cofferdamref05_round),("cofferdam/sha.constants",Rows.laid_cofferdam_sha_constants)]
set_option maxRecDepth 20000 in
theorem of_laid3 {W:World}(h:laidMetH Tryz.prog laid3 W):Tabs W∧RTabs W:=by
 rw[MakeChecks.laidMetH_plain _ _ _ (by kernel_rfl)]at h
 obtain⟨ps,⟨g0,t0,cs0,f0,p0,q0,hg0,ht0,hv0,hd0,⟨g1,t1,cs1,f1,p1,q1,hg1,ht1,hv1,hd1,⟨g2,t2,cs2,f2,p2,q2,hg2,ht2,hv2,hd2,_,_⟩,_⟩,_⟩,_,_⟩:=h
 obtain rfl:=Option.some.inj (gFirst.symm.trans hg0)
 obtain rfl:=Option.some.inj (tFirst.symm.trans ht0)
 obtain rfl:=Option.some.inj (gRound.symm.trans hg1)
 obtain rfl:=Option.some.inj (tRound.symm.trans ht1)
 obtain rfl:=Option.some.inj (gConst.symm.trans hg2)
 obtain rfl:=Option.some.inj (tConst.symm.trans ht2)
 rw[dConst]at hd2
 rw[dRound]at hd1
 rw[dFirst]at hd0
 exact⟨words_laid Tryz.underlying253 (World.var?_cell hg2 hv2) hd2,words_laid Tryz.underlying253 (World.var?_cell hg1 hv1) hd1,words_laid Tryz.underlying222 (World.var?_cell hg0 hv0) hd0⟩
set_option maxRecDepth 20000 in
theorem door3 (os:Os)(args:Array Value):laidMetH Tryz.prog laid3 ((World.doorLaid Tryz.prog 400 os).forCall (fun _ _=>0) ⟨#[],args,[]⟩).memory:=
 laidMetH_of_parts3 (fuel:=8) (laidMet_of_run' 8 (by kernel_rfl) (by kernel_rfl)) (by kernel_rfl) (by kernel_rfl)
end Go.Proofs.YtnhkkhiajiiahaaGreatDoor
