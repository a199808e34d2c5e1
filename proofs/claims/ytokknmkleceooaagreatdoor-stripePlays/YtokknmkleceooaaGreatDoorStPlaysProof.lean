/- The card of StripePlays: at every input the law answers true (whatever was done to the disks, Load, One and Whole answer as the document says). Conditions: the card's own alone, that the listed tables hold what the project's text lays there. -/
import Derived.Test.YtokknmkleceooaaGreatDoorRows
import Derived.Test.YtokknmkleceooaaGreatDoorCards
import Derived.Test.YtokknmkleceooaaGreatDoorTie
import Derived.Test.YtokknmkleceooaaGreatDoorStPlaysLaw
import Derived.Test.YtokknmkleceooaaGreatDoorLaid
import Derived.Test.YtokknmkleceooaaGreatDoorStArg3
import Derived.WalkKit
import Derived.ProofKit
import Derived.OpenShut
import Derived.ShutString
import Derived.ChangeOld
import Derived.Below
import Derived.LaidMore
import Derived.Stop.Joined
import Derived.SevenTiedAt
namespace Go.Proofs.YtokknmkleceooaaGreatDoor.stripePlays
open Go.ChangeShapes Go.WideShapes Go.ChangeAt Go.RowKit
open Go.ChangeMaps (open_string shut_string)
set_option linter.unusedVariables false
theorem own:ownKnob Tryz.prog.godebug=none:=by kernel_rfl
theorem laidOut:laidOutB Tryz.prog=true:=by kernel_rfl
set_option maxRecDepth 100000 in
theorem lifted (os:Os)(started:os.Started)(H:Type)(enc:TypeId×Value→H):
 ReturnsInHanded {} Tryz.checked os 4 .any (fun w args=>(Rows.stripePlaysSpec.pre enc Tryz.prog Tryz.f4 [] false w args∧laidMetH Tryz.prog d3y w)∧sizedMet enc Tryz.prog Tryz.f4 (OpenSpec.ofChange Rows.stripePlaysSpec) false w args)
  (Rows.stripePlaysSpec.post enc Tryz.prog Tryz.f4 false true false false):=by
 refine returnsInHanded_of_change_and (C:=Tryz.checked) (X:=fun w _=>laidMetH Tryz.prog d3y w) (fun _ _ _ hh h=>h.of_heap hh) own started (by kernel_rfl) Tryz.func4
  (ChangeSpec.witness_shaped (enc:=enc) (C:=Tryz.checked) (os:=os) (X:=fun w _=>laidMetH Tryz.prog d3y w) false (World.doorLaid Tryz.prog 400 os) #[.agg #[.int .i64 0,.int .i64 0,.int .i64 0,.int .i64 0],.slice none 0 0,.bool false] 8 rfl (World.shaped_of_RefB (by kernel_rfl) (by kernel_rfl)) (by kernel_rfl) (by kernel_rfl) (by kernel_rfl) (door3 os _)) ?_
 intro W base args ds gs before mZ hW _ aA hL0 _;have lJ:∀(j:Nat) t v,Tryz.f4.params[j]?=some t→args[j]?=some v→Value.okWide Tryz.prog W .any base t v:=mZ;have hL:=d8q hL0;have hW':=hW;obtain⟨p,q,hA0,hV,rfl,hfz,hnd⟩:=hW;have hA:DataW.TrodAll enc Tryz.prog W 0 (fun _=>true) true Tryz.f4.params.toList args.toList ds p:=hA0;rw[Tryz.params4]at hA lJ;obtain⟨v0,vs0,d0,ds0,p0,q0,hargs,rfl,rfl,h0,r0⟩:=trodAll_cons hA;obtain⟨v1,vs1,d1,ds1,p1,q1,rfl,rfl,rfl,h1,r1⟩:=trodAll_cons r0;obtain⟨v2,vs2,d2,ds2,p2,q2,rfl,rfl,rfl,h2,r2⟩:=trodAll_cons r1;obtain⟨rfl,rfl,rfl⟩:=trodAll_nil r2;obtain rfl:args=#[v0,v1,v2]:=by cases args;simp_all
 obtain⟨rfl,rfl⟩:=trodVars_none hV;have k0:=h0;have lt0:∀x∈p0,x.block<W.heap.size:=by obtain⟨m,hm⟩:=k0;exact DataW.trod_lt m _ _ _ hm
 obtain⟨xs0,rfl⟩:=e7g Tryz.underlying34 (lJ 0 34 v0 rfl rfl);obtain⟨xa0,xb0,xc0,xd0,e0,ya0,yb0,yc0,yd0⟩:=c7n h0;obtain rfl:xs0=[.int .i64 xa0,.int .i64 xb0,.int .i64 xc0,.int .i64 xd0]:=by simpa using congrArg Array.toList e0
 have k1:=h1;have lt1:∀x∈p1,x.block<W.heap.size:=by obtain⟨m,hm⟩:=k1;exact DataW.trod_lt m _ _ _ hm
 obtain⟨a1,len1,cap1,rfl⟩:=okWide_slice Tryz.underlying35 (lJ 1 35 v1 rfl rfl);have y1:=e5m h1;obtain⟨a2,rfl,rfl,rfl⟩:=open_bool Tryz.underlying4 (lJ 2 4 v2 rfl rfl) h2;clear hA0 mZ;refine(b2x xa0 xb0 xc0 xd0 a1 len1 cap1 a2 W ya0 yb0 yc0 yd0 y1 hL.1 hL.2).mono fun e W' ⟨he,hg⟩=>?_;subst he;exact⟨_,rfl,_,_,_,[],_,[],hW',(trodAll_cons_mk (shut_bool Tryz.underlying4 _) trodAll_mk0),(trodAll_cons_mk (Below.trod laidOut (by kernel_rfl) (of_decide_eq_true (by kernel_rfl)) k0 hg lt0) (trodAll_cons_mk (Below.trod laidOut (by kernel_rfl) (of_decide_eq_true (by kernel_rfl)) k1 hg lt1) (trodAll_cons_mk (shut_bool Tryz.underlying4 _) trodAll_mk0))),rfl,hg.frame _,fun h=>by cases h⟩
theorem over:Rows.StripePlaysSaid:=
 OpenClaim.holds_of_wide 4 Tryz.f4 rfl rfl rfl rfl rfl rfl rfl ⟨rfl,rfl,rfl,rfl,rfl⟩ rfl rfl rfl rfl rfl (by kernel_rfl) Tryz.func4 (by kernel_rfl)
  (of_decide_eq_true (by kernel_rfl)) (by unfold Func.isWrapper;first|(rw[if_pos (by decide+kernel)];kernel_rfl)|(rw[if_neg (by decide+kernel)];exact⟨rfl,rfl⟩))
  (fun os started H enc _=>lifted os started H enc)
end Go.Proofs.YtokknmkleceooaaGreatDoor.stripePlays
namespace Go.Proofs.YtokknmkleceooaaGreatDoor
theorem stripePlays_card:Rows.StripePlaysCardSaid:=
 Claim7.holds_tied_plain_at .later [] [.data,.data,.data] true (true, "b4aacad994fd9da6b627a72b626b84a2a61534da929d64bf7c95c7cd6ea08d50") false
  stripePlays.over (fun _ h=>by cases h) (by kernel_rfl) (fun _ h=>by cases h) stripePlays_row_tie rfl ⟨rfl,rfl⟩ (by kernel_rfl) rfl
  (fun f fn hf sR=>by
   obtain rfl:f=4:=Option.some.inj ((show Tryz.prog.funcNamed "cofferdam/cofferdamlaw19.StripePlays" =some 4 by kernel_rfl).symm.trans hf)|>.symm;obtain rfl:fn=Tryz.f4:=(Option.some.inj (Tryz.func4.symm.trans sR)).symm;exact⟨by kernel_rfl,fun j t ht=>by
    rw[Tryz.params4]at ht;have hm:t∈[34,35,4]:=(by simpa using Array.mem_of_getElem? ht);have aR:([34,35,4].all fun u=>!Tryz.prog.wantsStandIn u)=true:=(by kernel_rfl);exact(show Tryz.prog.wantsStandIn t=false by simpa using List.all_eq_true.1 aR t hm)⟩)
  (by kernel_rfl)
#print axioms stripePlays_card
end Go.Proofs.YtokknmkleceooaaGreatDoor
