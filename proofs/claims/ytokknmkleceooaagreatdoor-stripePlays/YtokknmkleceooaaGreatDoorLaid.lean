import Derived.Test.YtokknmkleceooaaGreatDoorRows
import Derived.Test.YtokknmkleceooaaGreatDoorShaM
import Derived.ProofKit
import Derived.LaidMore
import Derived.OpenShut
import Derived.MakeChecks
import Derived.FnData
namespace Go.Proofs.YtokknmkleceooaaGreatDoor
set_option linter.unusedVariables false
set_option maxRecDepth 20000
set_option maxHeartbeats 8000000
open Go.Proofs.Tryz
open Go.ChangeShapes Go.WideShapes Go.ChangeAt Go.RowKit
theorem e8x:prog.globalNamed "cofferdam/cofferdamref05.first" =some 0:=by kernel_rfl
theorem e8w:prog.globalNamed "cofferdam/cofferdamref05.round" =some 1:=by kernel_rfl
theorem e8y:prog.globalNamed "cofferdam/sha.constants" =some 2:=by kernel_rfl
theorem e7c:(prog.globals[0]?).map (·.type)=some 264:=by kernel_rfl
theorem e7b:(prog.globals[1]?).map (·.type)=some 298:=by kernel_rfl
theorem e7d:(prog.globals[2]?).map (·.type)=some 298:=by kernel_rfl
theorem e0v:prog.cellsOf 195=1:=by kernel_rfl
theorem e9h:(Rows.laid_cofferdam_cofferdamref05_first:DataW Unit)=.agg (iL.map λx=>.lit (.int .u32 x)):=rfl
theorem e9g:(Rows.laid_cofferdam_cofferdamref05_round:DataW Unit)=.agg (kL.map λx=>.lit (.int .u32 x)):=rfl
theorem e9i:(Rows.laid_cofferdam_sha_constants:DataW Unit)=.agg (kL.map λx=>.lit (.int .u32 x)):=rfl
theorem b0k {H:Type}{enc:TypeId×Value->H}{W:World}{sp:Nat->Bool}{held:Bool}{fuel:Nat}{t:TypeId}{n g:Nat}{cs:Array Value}{L:List Int}{p:List MemPlace}(hu:prog.underlying t=some (.array n 195))
 (x5:∀i,W.cell? ⟨g,i,none⟩=cs[i]?)(hd:DataW.trod enc prog W 0 sp held fuel t cs.toList=some (.agg (L.map λx=>.lit (.int .u32 x)),p)):
 ∀i,i<n->W.cell? ⟨g,i,none⟩=some (.int .u32 (L.getD i 0)):=by
 obtain⟨xs,m,rfl,hx,jQ,hn,hel⟩:=DataW.trod_array hu hd;simp only[Prod.mk.injEq,DataW.agg.injEq]at hx;intro i hi;have h:=hel i hi;rw[e0v,Nat.mul_one]at h;have mX:i<xs.length:=by omega
 rw[List.getElem?_eq_getElem mX]at h;obtain⟨k,e1,e2,_⟩:=DataW.trod_int underlying195 h;have hL:=congrArg (λl=>l[i]?) hx.1;simp only[List.getElem?_map,List.getElem?_eq_getElem mX,Option.map_some]at hL;rw[e2]at hL
 cases hLi:L[i]? with
 |none=>rw[hLi]at hL;cases hL
 |some x=>
  rw[hLi]at hL;simp only[Option.map_some,Option.some.injEq,DataW.lit.injEq,Lit.int.injEq,true_and]at hL;subst hL;rw[x5 i,List.getD_eq_getElem?_getD,hLi,Option.getD_some];have h0:=congrArg (λl=>l[0]?) e1;simp only[List.getElem?_take_of_lt (show 0<1 by omega),List.getElem?_drop,Nat.add_zero,List.getElem?_cons_zero]at h0;rw[<-h0,Array.getElem?_toList]
def d3y:List (String×DataW Unit):=[("cofferdam/cofferdamref05.first",Rows.laid_cofferdam_cofferdamref05_first),("cofferdam/cofferdamref05.round",Rows.laid_cofferdam_cofferdamref05_round),("cofferdam/sha.constants",Rows.laid_cofferdam_sha_constants)]
theorem d8q {W:World}(h:laidMetH prog d3y W):Tabs W/\RTabs W:=by
 rw[MakeChecks.laidMetH_plain _ _ _ (by kernel_rfl)]at h;obtain⟨ps,⟨g0,t0,cs0,f0,p0,q0,hg0,ht0,hv0,hd0,⟨g1,t1,cs1,f1,p1,q1,hg1,ht1,hv1,hd1,⟨g2,t2,cs2,f2,p2,q2,hg2,ht2,hv2,hd2,_,_⟩,_⟩,_⟩,_,_⟩:=h;obtain rfl:=Option.some.inj (e8x.symm.trans hg0);obtain rfl:=Option.some.inj (e7c.symm.trans ht0);obtain rfl:=Option.some.inj (e8w.symm.trans hg1);obtain rfl:=Option.some.inj (e7b.symm.trans ht1);obtain rfl:=Option.some.inj (e8y.symm.trans hg2);obtain rfl:=Option.some.inj (e7d.symm.trans ht2);rw[e9i]at hd2;rw[e9g]at hd1;rw[e9h]at hd0;exact⟨b0k underlying298 (World.var?_cell hg2 hv2) hd2,b0k underlying298 (World.var?_cell hg1 hv1) hd1,b0k underlying264 (World.var?_cell hg0 hv0) hd0⟩
theorem door3 (os:Os)(args:Array Value):laidMetH prog d3y ((World.doorLaid prog 400 os).forCall (λ_ _=>0) ⟨#[],args,[]⟩).memory:=
 laidMetH_of_parts3 (fuel:=8) (laidMet_of_run' 8 (by kernel_rfl) (by kernel_rfl)) (by kernel_rfl) (by kernel_rfl)
end Go.Proofs.YtokknmkleceooaaGreatDoor
