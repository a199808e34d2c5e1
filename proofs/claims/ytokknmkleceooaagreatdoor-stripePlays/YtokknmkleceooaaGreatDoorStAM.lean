import Derived.Test.YtokknmkleceooaaGreatDoorStLyM
import Derived.SliceStrings
import Derived.SizedLaws
import Derived.ProofKit
import Derived.OpenShut
namespace Go.Proofs.YtokknmkleceooaaGreatDoor
set_option linter.unusedVariables false
set_option maxRecDepth 20000
set_option maxHeartbeats 8000000
open Go.Proofs.Tryz
open Go.ChangeShapes Go.WideShapes Go.ChangeAt Go.RowKit Go.PlainAid
theorem e7g {W:World}{b0 n:Nat}{t e:TypeId}{v:Value}(hu:prog.underlying t=some (.array n e))(h:Value.okWide prog W .any b0 t v):∃xs:List Value,v=.agg xs.toArray:=by
 simp only[Value.okWide,hu]at h;obtain⟨cs,h1,_⟩:=h;exact⟨cs.toList,by rw[h1]⟩
theorem c4z {β:Type}{g:Nat->Option β}:∀(L:List Nat) (ys:List β),L.mapM g=some ys->∀i∈L,∃y,g i=some y
 |[],ys,h=>λi hi=>by cases hi
 |a::L,ys,h=>λi hi=>by
  rw[List.mapM_cons]at h;simp only[bind,Option.bind_eq_some_iff,pure,Option.some.injEq]at h;obtain⟨y,hy,zs,hz,rfl⟩:=h
  cases hi with
  |head=>exact⟨y,hy⟩
  |tail _ hi=>exact c4z L zs hz i hi
theorem t4_at {H:Type}{enc:TypeId×Value->H}{W:World}{t e:TypeId}{n:Nat}{xs:Array Value}{d:DataW H}{p:List MemPlace}(hu:prog.underlying t=some (.array n e))(hc:prog.cellsOf e=1)(tD:prog.cellsOf t=n)
 (h:DataW.Trod enc prog W 0 (λ_=>true) true t (.agg xs) d p):xs.size=n/\∀i,i<n->∃fuel y v,DataW.trod enc prog W 0 (λ_=>true) true fuel e [v]=some y/\xs[i]?=some v:=by
 obtain⟨fuel,hf⟩:=h
 cases fuel with
 |zero=>simp[DataW.trod]at hf
 |succ m=>
  rw[DataW.trod_step]at hf;unfold DataW.trodStep at hf;simp only[hu,Value.cells,hc,tD]at hf;by_cases hn:xs.toList.length=n
  ·rw[qp hn]at hf;simp only[Option.map_eq_some_iff]at hf;obtain⟨ys,hy,-⟩:=hf;have hn':xs.size=n:=(by simpa using hn);refine⟨hn',λi hi=>?_⟩;obtain⟨y,hy⟩:=c4z _ _ hy i (List.mem_range.2 hi);have e1:(xs.toList.drop (i*1)).take 1=[xs[i]'(by omega)]:=by
    rw[Nat.mul_one,List.drop_eq_getElem_cons (by rw[Array.length_toList];omega)];simp
   rw[e1]at hy;exact⟨m,y,_,hy,Array.getElem?_eq_getElem _⟩
  ·rw[qn hn]at hf;cases hf
theorem c7n {H:Type}{enc:TypeId×Value->H}{W:World}{xs:Array Value}{d:DataW H}{p:List MemPlace}(h:DataW.Trod enc prog W 0 (λ_=>true) true 34 (.agg xs) d p):
 ∃x0 x1 x2 x3:Int,xs=#[.int .i64 x0,.int .i64 x1,.int .i64 x2,.int .i64 x3]/\(-9223372036854775808<=x0/\x0<=9223372036854775807)/\(-9223372036854775808<=x1/\x1<=9223372036854775807)/\(-9223372036854775808<=x2/\x2<=9223372036854775807)/\(-9223372036854775808<=x3/\x3<=9223372036854775807):=by
 obtain⟨hn,hx⟩:=t4_at underlying34 (by kernel_rfl) (by kernel_rfl) h;have hs:∀i,i<4->∃n:Int,xs[i]?=some (.int .i64 n)/\(-9223372036854775808<=n/\n<=9223372036854775807):=λi hi=>by
  obtain⟨fuel,y,v,h1,h2⟩:=hx i hi;obtain⟨s,h3,-,h4⟩:=DataW.trod_int underlying3 h1;simp at h3;exact⟨s,by rw[h2,h3],bounds_i64 h4⟩
 obtain⟨s0,a0,b0⟩:=hs 0 (by decide);obtain⟨s1,a1,b1⟩:=hs 1 (by decide);obtain⟨s2,a2,b2⟩:=hs 2 (by decide);obtain⟨s3,a3,b3⟩:=hs 3 (by decide);refine⟨s0,s1,s2,s3,?_,b0,b1,b2,b3⟩;apply Array.ext_getElem?;intro i
 match i with
 |0=>exact a0
 |1=>exact a1
 |2=>exact a2
 |3=>exact a3
 |i+4=>rw[Array.getElem?_eq_none (by omega),Array.getElem?_eq_none (by simp)]
end Go.Proofs.YtokknmkleceooaaGreatDoor
