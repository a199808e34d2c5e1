import Derived.Test.YtnhkkhiajiiahaaGreatDoorSlBegin
import Derived.SliceStrings
import Derived.SizedLaws
import Derived.ProofKit
import Derived.OpenShut
namespace Go.Proofs.YtnhkkhiajiiahaaGreatDoor
open Go.ChangeShapes Go.WideShapes Go.ChangeAt Go.RowKit Go.PlainAid
set_option linter.unusedVariables false
set_option maxRecDepth 20000
structure Ac where
 d:Int
 s:Int
 a:Int
 t:Int
 ca:Option Addr
 cl:Nat
 cc:Nat
 p:ByteArray
abbrev Ac.row (x:Ac):List Value:=[.int .i64 x.d,.int .i64 x.s,.int .i64 x.a,.int .u8 x.t,.slice x.ca x.cl x.cc,.string x.p]
abbrev Ac.Ok (x:Ac):Prop:=(-9223372036854775808≤x.d∧x.d≤9223372036854775807)∧(-9223372036854775808≤x.s∧x.s≤9223372036854775807)∧(-9223372036854775808≤x.a∧x.a≤9223372036854775807)∧(0≤x.t∧x.t≤255)∧x.p.size≤maxLen
section
variable {H:Type}{enc:TypeId×Value→H}{W:World}
theorem ac_in {fuel:Nat}{cs:List Value}{x:DataW H×List MemPlace}(h:DataW.trod enc Tryz.prog W 0 (fun _=>true) true fuel 32 cs=some x):∃A:Ac,A.Ok∧cs=A.row:=by
 obtain⟨xs,m,_,_,hl,hn,hf⟩:=DataW.trod_struct Tryz.underlying32 h
 rw[show Tryz.prog.cellsOf 32=6 by kernel_rfl]at hl
 have hn6:xs.length=6:=hn
 obtain⟨c0,c1,c2,c3,c4,c5,rfl⟩:∃c0 c1 c2 c3 c4 c5,cs=[c0,c1,c2,c3,c4,c5]:=by
  match cs,hl with
  |[c0,c1,c2,c3,c4,c5],_=>exact⟨c0,c1,c2,c3,c4,c5,rfl⟩
 have h0:DataW.trod enc Tryz.prog W 0 (fun _=>true) true m 3 [c0]=xs[0]?:=hf 0 _ rfl
 have h1:DataW.trod enc Tryz.prog W 0 (fun _=>true) true m 3 [c1]=xs[1]?:=hf 1 _ rfl
 have h2:DataW.trod enc Tryz.prog W 0 (fun _=>true) true m 3 [c2]=xs[2]?:=hf 2 _ rfl
 have h3:DataW.trod enc Tryz.prog W 0 (fun _=>true) true m 5 [c3]=xs[3]?:=hf 3 _ rfl
 have h5:DataW.trod enc Tryz.prog W 0 (fun _=>true) true m 9 [c5]=xs[5]?:=hf 5 _ rfl
 have h4:DataW.trod enc Tryz.prog W 0 (fun _=>true) true m 30 [c4]=xs[4]?:=hf 4 _ rfl
 rw[List.getElem?_eq_getElem (by omega)]at h0 h1 h2 h3 h4 h5
 obtain⟨ca,cl,cc,rfl⟩:∃ca cl cc,c4=.slice ca cl cc:=by
  rcases DataW.trod_slice Tryz.underlying30 h4 with⟨hq,_⟩|⟨x,l,c,elems,rest,n,_,hq,_⟩
  ·simp at hq;exact⟨_,_,_,hq⟩
  simp at hq;exact⟨_,_,_,hq⟩
 obtain⟨d,e0,-,w0⟩:=DataW.trod_int Tryz.underlying3 h0
 obtain⟨s,e1,-,w1⟩:=DataW.trod_int Tryz.underlying3 h1
 obtain⟨a,e2,-,w2⟩:=DataW.trod_int Tryz.underlying3 h2
 obtain⟨t,e3,-,w3⟩:=DataW.trod_int Tryz.underlying5 h3
 obtain⟨p,e5,-,w5⟩:=DataW.trod_string Tryz.underlying9 h5
 cases e0;cases e1;cases e2;cases e3;cases e5
 exact⟨⟨d,s,a,t,ca,cl,cc,p⟩,⟨bounds_i64 w0,bounds_i64 w1,bounds_i64 w2,by have:=bounds_u8 w3;omega,w5⟩,rfl⟩
end
def Tin (W:World)(a:Option Addr)(len cap:Nat)(s:Nat→ByteArray):Prop:=len≤cap∧cap≤maxLen∧(∀i,i<len→(s i).size≤maxLen)∧(len=0∨∃b o,a=some ⟨b,o,none⟩∧b<W.heap.size∧∀i,i<len→W.cell? ⟨b,o+i,none⟩=some (.string (s i)))
def Ac.Ok2 (W:World)(x:Ac):Prop:=x.Ok∧∃s:Nat→ByteArray,Tin W x.ca x.cl x.cc s
def Acs2 (W:World)(a:Option Addr)(len cap:Nat):Prop:=Came (Ac.Ok2 W) Ac.row 6 W a len cap
section
variable {H:Type}{enc:TypeId×Value→H}{W:World}
theorem texts_in {fuel:Nat}{a:Option Addr}{l c:Nat}{x:DataW H×List MemPlace}(h:DataW.trod enc Tryz.prog W 0 (fun _=>true) true fuel 30 [.slice a l c]=some x):∃s:Nat→ByteArray,Tin W a l c s:=by
 rcases open_strings Tryz.underlying30 Tryz.underlying9 (by kernel_rfl) h with⟨hq,_⟩|⟨a',l',c',ss,hq,_,hl,hm,hz,_,hcell,hsz⟩
 ·simp at hq
  obtain⟨rfl,rfl,rfl⟩:=hq
  exact⟨fun _=>noB,Nat.le_refl _,Nat.zero_le _,fun i hi=>by omega,.inl rfl⟩
 simp at hq
 obtain⟨rfl,rfl,rfl⟩:=hq
 have hzc:ss.length=c:=by rw[hz];exact if_pos rfl
 refine⟨fun i=>ss.getD i ByteArray.empty,hl,hm,fun i hi=>?_,?_⟩
 ·have hi':i<ss.length:=by omega
  show(ss.getD i ByteArray.empty).size≤maxLen
  rw[List.getD_eq_getElem?_getD,List.getElem?_eq_getElem hi']
  exact hsz _ (List.getElem_mem hi')
 by_cases h0:l=0
 ·exact .inl h0
 obtain⟨b,o,sp⟩:=a'
 have h1:=hcell 0 (by omega)
 have hsp:sp=none:=by
  have:=World.cell?_spot h1
  simpa[Addr.add]using this
 subst hsp
 rw[add_plain]at h1
 refine .inr ⟨b,o,rfl,cell_blk_lt h1,fun i hi=>?_⟩
 have h2:=hcell i (by omega)
 rw[add_plain]at h2
 exact h2
theorem ac_in2 {fuel:Nat}{cs:List Value}{x:DataW H×List MemPlace}(h:DataW.trod enc Tryz.prog W 0 (fun _=>true) true fuel 32 cs=some x):∃A:Ac,A.Ok2 W∧cs=A.row:=by
 obtain⟨A,hA,rfl⟩:=ac_in h
 obtain⟨xs,m,_,_,hl,hn,hf⟩:=DataW.trod_struct Tryz.underlying32 h
 have hn6:xs.length=6:=hn
 have h4:DataW.trod enc Tryz.prog W 0 (fun _=>true) true m 30 [.slice A.ca A.cl A.cc]=xs[4]?:=hf 4 _ rfl
 rw[List.getElem?_eq_getElem (by omega)]at h4
 exact⟨A,⟨hA,texts_in h4⟩,rfl⟩
theorem acs2_arg {a:Option Addr}{len cap:Nat}{d:DataW H}{p:List MemPlace}(h:DataW.Trod enc Tryz.prog W 0 (fun _=>true) true 24 (.slice a len cap) d p):Acs2 W a len cap:=
 came_arg ⟨0,0,0,0,none,0,0,noB⟩ _ _ 6 (fun _=>rfl) (by decide) Tryz.underlying24 (by kernel_rfl) (fun fuel cs x h=>ac_in2 h) h
end
theorem acs2_at {W z:World}{a:Option Addr}{len cap:Nat}(h:Acs2 W a len cap)(hb:Below W.heap.size W z)(j:Nat)(hj:j<len):∃sb so,∃A:Ac,a=some ⟨sb,so,none⟩∧A.Ok2 W∧z.rangeAt sb (so+j*6) A.row:=came_at h hb j hj
theorem Tin.at {W z:World}{a:Option Addr}{len cap:Nat}{s:Nat→ByteArray}(h:Tin W a len cap s)(hb:Below W.heap.size W z)(j:Nat)(hj:j<len):∃b o,a=some ⟨b,o,none⟩∧z.cell? ⟨b,o+j,none⟩=some (.string (s j)):=by
 obtain⟨_,_,_,h0|⟨b,o,e,hl,hr⟩⟩:=h
 ·omega
 exact⟨b,o,e,(hb.cell (p:=⟨b,o+j,none⟩) hl).trans (hr j hj)⟩
theorem t2_range {β:Type}{g:Nat→Option β}:∀(L:List Nat) (ys:List β),L.mapM g=some ys→∀i∈L,∃y,g i=some y
 |[],ys,h=>fun i hi=>by cases hi
 |a::L,ys,h=>fun i hi=>by
  rw[List.mapM_cons]at h
  simp only[bind,Option.bind_eq_some_iff,pure,Option.some.injEq]at h
  obtain⟨y,hy,zs,hz,rfl⟩:=h
  cases hi with
  |head=>exact⟨y,hy⟩
  |tail _ hi=>exact t2_range L zs hz i hi
set_option maxRecDepth 20000 in
theorem t2_at {H:Type}{enc:TypeId×Value→H}{W:World}{t e:TypeId}{n:Nat}{xs:Array Value}{d:DataW H}{p:List MemPlace}(hu:Tryz.prog.underlying t=some (.array n e))(hc:Tryz.prog.cellsOf e=1)(hct:Tryz.prog.cellsOf t=n)
 (h:DataW.Trod enc Tryz.prog W 0 (fun _=>true) true t (.agg xs) d p):xs.size=n∧∀i,i<n→∃fuel y v,DataW.trod enc Tryz.prog W 0 (fun _=>true) true fuel e [v]=some y∧xs[i]?=some v:=by
 obtain⟨fuel,hf⟩:=h
 cases fuel with
 |zero=>simp[DataW.trod]at hf
 |succ m=>
  rw[DataW.trod_step]at hf
  unfold DataW.trodStep at hf
  simp only[hu,Value.cells,hc,hct]at hf
  by_cases hn:xs.toList.length=n
  ·rw[if_pos hn]at hf
   simp only[Option.map_eq_some_iff]at hf
   obtain⟨ys,hy,-⟩:=hf
   have hn':xs.size=n:=by simpa using hn
   refine⟨hn',fun i hi=>?_⟩
   obtain⟨y,hy⟩:=t2_range _ _ hy i (List.mem_range.2 hi)
   have e1:(xs.toList.drop (i*1)).take 1=[xs[i]'(by omega)]:=by
    rw[Nat.mul_one,List.drop_eq_getElem_cons (by rw[Array.length_toList];omega)]
    simp
   rw[e1]at hy
   exact⟨m,y,_,hy,Array.getElem?_eq_getElem _⟩
  rw[if_neg hn]at hf;cases hf
set_option maxRecDepth 20000 in
theorem tints2_arg {H:Type}{enc:TypeId×Value→H}{W:World}{xs:Array Value}{d:DataW H}{p:List MemPlace}(h:DataW.Trod enc Tryz.prog W 0 (fun _=>true) true 22 (.agg xs) d p):
 ∃x y:Int,xs=#[.int .i64 x,.int .i64 y]:=by
 obtain⟨hn,hx⟩:=t2_at Tryz.underlying22 (by kernel_rfl) (by kernel_rfl) h
 have hs:∀i,i<2→∃n:Int,xs[i]?=some (.int .i64 n):=fun i hi=>by
  obtain⟨fuel,y,v,h1,h2⟩:=hx i hi
  obtain⟨s,h3,-,h4⟩:=DataW.trod_int Tryz.underlying3 h1
  simp at h3
  exact⟨s,by rw[h2,h3]⟩
 obtain⟨s0,a0⟩:=hs 0 (by decide)
 obtain⟨s1,a1⟩:=hs 1 (by decide)
 refine⟨s0,s1,?_⟩
 apply Array.ext_getElem?
 intro i
 match i with
 |0=>exact a0
 |1=>exact a1
 |i+2=>rw[Array.getElem?_eq_none (by omega),Array.getElem?_eq_none (by simp)]
end Go.Proofs.YtnhkkhiajiiahaaGreatDoor
