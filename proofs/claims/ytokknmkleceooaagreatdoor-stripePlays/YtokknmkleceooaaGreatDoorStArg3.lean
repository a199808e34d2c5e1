import Derived.Test.YtokknmkleceooaaGreatDoorStAM
import Derived.Test.YtokknmkleceooaaGreatDoorStHM
namespace Go.Proofs.YtokknmkleceooaaGreatDoor
set_option linter.unusedVariables false
set_option maxRecDepth 20000
set_option maxHeartbeats 8000000
open Go.Proofs.Tryz
open Go.ChangeShapes Go.WideShapes Go.ChangeAt Go.RowKit Go.PlainAid
structure Ha where
 d:Int
 k:Int
 a:Int
 c:BA
abbrev Ha.row (x:Ha):List Value:=haL x.d x.k x.a x.c
abbrev Ha.Ok (x:Ha):Prop:=(-9223372036854775808<=x.d/\x.d<=9223372036854775807)/\(-9223372036854775808<=x.k/\x.k<=9223372036854775807)/\(-9223372036854775808<=x.a/\x.a<=9223372036854775807)/\x.c.size<=maxLen
theorem size41:(prog.info? 41).map (·.size)=some 4:=by kernel_rfl
theorem d6u (w:World):(zeroValue 41).run prog w=.ok (.agg #[.int .i64 0,.int .i64 0,.int .i64 0,.string noB]) w:=by
 obtain⟨i0,hi,hz⟩:=Option.map_eq_some_iff.1 (show(prog.info? 41).map (λi=>i.zero)=some (some (.agg #[.int .i64 0,.int .i64 0,.int .i64 0,.string noB])) by kernel_rfl);simp[zeroValue,typeInfo,hi,hz]
def Has (W:World)(a:Option Addr)(len cap:Nat):Prop:=Came Ha.Ok Ha.row 4 W a len cap
section
variable {H:Type}{enc:TypeId×Value->H}{W:World}
theorem ha_in {fuel:Nat}{cs:List Value}{x:DataW H×List MemPlace}(h:DataW.trod enc prog W 0 (λ_=>true) true fuel 41 cs=some x):∃A:Ha,A.Ok/\cs=A.row:=by
 obtain⟨xs,m,_,_,hl,hn,hf⟩:=DataW.trod_struct underlying41 h;rw[show prog.cellsOf 41=4 by kernel_rfl]at hl;have hn4:xs.length=4:=hn;obtain⟨c0,c1,c2,c3,rfl⟩:∃c0 c1 c2 c3,cs=[c0,c1,c2,c3]:=by
  match cs,hl with
  |[c0,c1,c2,c3],_=>exact⟨c0,c1,c2,c3,rfl⟩
 have h0:DataW.trod enc prog W 0 (λ_=>true) true m 3 [c0]=xs[0]?:=hf 0 _ rfl;have h1:DataW.trod enc prog W 0 (λ_=>true) true m 3 [c1]=xs[1]?:=hf 1 _ rfl;have h2:DataW.trod enc prog W 0 (λ_=>true) true m 3 [c2]=xs[2]?:=hf 2 _ rfl;have h3:DataW.trod enc prog W 0 (λ_=>true) true m 9 [c3]=xs[3]?:=hf 3 _ rfl;rw[List.getElem?_eq_getElem (by omega)]at h0 h1 h2 h3;obtain⟨d,e0,-,w0⟩:=DataW.trod_int underlying3 h0;obtain⟨s,e1,-,w1⟩:=DataW.trod_int underlying3 h1;obtain⟨a,e2,-,w2⟩:=DataW.trod_int underlying3 h2;obtain⟨p,e3,-,w3⟩:=DataW.trod_string underlying9 h3
 cases e0;cases e1;cases e2;cases e3
 exact⟨⟨d,s,a,p⟩,⟨bounds_i64 w0,bounds_i64 w1,bounds_i64 w2,w3⟩,rfl⟩
theorem e5m {a:Option Addr}{len cap:Nat}{d:DataW H}{p:List MemPlace}(h:DataW.Trod enc prog W 0 (λ_=>true) true 35 (.slice a len cap) d p):Has W a len cap:=
 e0w ⟨0,0,0,noB⟩ _ _ 4 (λ_=>rfl) (by decide) underlying35 (by kernel_rfl) (λfuel cs x h=>ha_in h) h
end
theorem e8p {W z:World}{a:Option Addr}{len cap:Nat}(h:Has W a len cap)(hb:Below W.heap.size W z)(j:Nat)(hj:j<len):∃sb so,∃A:Ha,a=some ⟨sb,so,none⟩/\A.Ok/\z.rangeAt sb (so+j*4) A.row:=by
 obtain⟨_,_,A,hA,h0|⟨b,o,e,hl,hr⟩⟩:=h
 ·omega
 ·exact⟨b,o,A j,e,hA j hj,λk v hv=>(hb.cell (p:=⟨b,o+j*4+k,none⟩) hl).trans (hr j hj k v hv)⟩
end Go.Proofs.YtokknmkleceooaaGreatDoor
