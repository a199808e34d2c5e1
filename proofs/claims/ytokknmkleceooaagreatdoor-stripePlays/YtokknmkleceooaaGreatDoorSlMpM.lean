import Derived.Shelf.SlIterI.Nil
import Derived.Shelf.SortM.Plain
import Derived.Shelf.SortM.SortNone
import Derived.Test.YtokknmkleceooaaGreatDoorBaseM
import Derived.Maps.OwnSet
import Derived.Lib.AppendZeros
namespace Go.Proofs.YtokknmkleceooaaGreatDoor
set_option linter.unusedVariables false
set_option maxRecDepth 20000
set_option maxHeartbeats 8000000
open Go.Proofs.Tryz
open Go.Shelf
def c5w:Go.Shelf.Ren:=⟨fun|7=>179|10=>215|n=>n,fun|23=>149|26=>3|3=>144|28=>260|0=>0|27=>259|33=>75|4=>4|n=>n,fun|n=>n⟩
theorem e8k:Go.Proofs.SlLaysZI.n7 prog c5w:={
 mixed:=by kernel_rfl
 f7:=⟨f179.name,by decide,func179.trans (congrArg some (by kernel_rfl))⟩
 f10:=⟨f215.name,by decide,func215.trans (congrArg some (by kernel_rfl))⟩
 t0:=underlying0
 a0:=isAgg0
 z0:=sizeOf0
 v0:=zeroValue0
 t4:=underlying4
 a4:=isAgg4
 z4:=sizeOf4
 v4:=zeroValue4
 t23:=underlying149
 a23:=isAgg149
 z23:=sizeOf149
 v23:=zeroValue149
 t26:=underlying3
 a26:=isAgg3
 z26:=sizeOf3
 v26:=zeroValue3
 t27:=underlying259
 a27:=isAgg259
 z27:=sizeOf259
 v27:=zeroValue259
 t28:=underlying260
 a28:=isAgg260
 z28:=sizeOf260
 v28:=zeroValue260
 t33:=underlying75
 a33:=isAgg75
 z33:=sizeOf75
 v33:=zeroValue75}
def b5n:Go.Shelf.Ren:=⟨fun|6=>178|8=>213|9=>214|11=>238|13=>240|12=>239|23=>256|24=>257|14=>247|15=>248|16=>249|17=>250|18=>251|19=>252|20=>253|21=>254|22=>255|25=>264|26=>265|27=>266|28=>267|29=>268|30=>269|31=>270|n=>n,fun|26=>3|28=>260|24=>55|0=>0|3=>3|37=>190|48=>195|50=>198|4=>4|40=>327|39=>326|45=>331|5=>5|9=>9|51=>336|55=>340|57=>342|58=>343|33=>75|n=>n,fun|n=>n⟩
theorem e5i:Go.Proofs.SlLaysZI.n6 prog b5n:={
 mixed:=by kernel_rfl
 f6:=⟨f178.name,by decide,func178.trans (congrArg some (by kernel_rfl))⟩
 f8:=⟨f213.name,by decide,func213.trans (congrArg some (by kernel_rfl))⟩
 f11:=⟨f238.name,by decide,func238.trans (congrArg some (by kernel_rfl))⟩
 t0:=underlying0
 a0:=isAgg0
 z0:=sizeOf0
 v0:=zeroValue0
 t24:=underlying55
 a24:=isAgg55
 z24:=sizeOf55
 v24:=zeroValue55
 t26:=underlying3
 a26:=isAgg3
 z26:=sizeOf3
 v26:=zeroValue3
 t28:=underlying260
 a28:=isAgg260
 z28:=sizeOf260
 v28:=zeroValue260
 i26:=by kernel_rfl}
def d8z:Go.Shelf.Ren:=⟨fun|5=>214|8=>240|7=>239|19=>256|20=>257|10=>247|11=>248|12=>249|13=>250|14=>251|15=>252|16=>253|17=>254|18=>255|30=>264|31=>265|32=>266|33=>267|34=>268|35=>269|40=>270|n=>n,fun|23=>55|25=>3|3=>3|32=>190|22=>55|0=>0|44=>195|46=>198|4=>4|36=>327|35=>326|41=>331|5=>5|9=>9|53=>336|57=>340|63=>342|64=>343|n=>n,fun|n=>n⟩
theorem e8j:Go.Proofs.SlLaysM.n5 prog d8z:={
 mixed:=by kernel_rfl
 f5:=⟨f214.name,by decide,func214.trans (congrArg some (by kernel_rfl))⟩
 f7:=⟨f239.name,by decide,func239.trans (congrArg some (by kernel_rfl))⟩
 f8:=func240.trans (congrArg some (by kernel_rfl))
 f10:=⟨f247.name,by decide,func247.trans (congrArg some (by kernel_rfl))⟩
 f11:=⟨f248.name,by decide,func248.trans (congrArg some (by kernel_rfl))⟩
 f12:=⟨f249.name,by decide,func249.trans (congrArg some (by kernel_rfl))⟩
 f13:=⟨f250.name,by decide,func250.trans (congrArg some (by kernel_rfl))⟩
 f14:=⟨f251.name,by decide,func251.trans (congrArg some (by kernel_rfl))⟩
 f15:=⟨f252.name,by decide,func252.trans (congrArg some (by kernel_rfl))⟩
 f16:=⟨f253.name,by decide,func253.trans (congrArg some (by kernel_rfl))⟩
 f17:=⟨f254.name,by decide,func254.trans (congrArg some (by kernel_rfl))⟩
 f18:=⟨f255.name,by decide,func255.trans (congrArg some (by kernel_rfl))⟩
 f19:=func256.trans (congrArg some (by kernel_rfl))
 f20:=func257.trans (congrArg some (by kernel_rfl))
 f30:=⟨f264.name,by decide,func264.trans (congrArg some (by kernel_rfl))⟩
 f31:=func265.trans (congrArg some (by kernel_rfl))
 f32:=func266.trans (congrArg some (by kernel_rfl))
 f33:=⟨f267.name,by decide,func267.trans (congrArg some (by kernel_rfl))⟩
 f34:=⟨f268.name,by decide,func268.trans (congrArg some (by kernel_rfl))⟩
 f35:=⟨f269.name,by decide,func269.trans (congrArg some (by kernel_rfl))⟩
 f40:=⟨f270.name,by decide,func270.trans (congrArg some (by kernel_rfl))⟩
 t0:=underlying0
 a0:=isAgg0
 z0:=sizeOf0
 v0:=zeroValue0
 t3:=underlying3
 a3:=isAgg3
 z3:=sizeOf3
 v3:=zeroValue3
 t4:=underlying4
 a4:=isAgg4
 z4:=sizeOf4
 v4:=zeroValue4
 t5:=underlying5
 a5:=isAgg5
 z5:=sizeOf5
 v5:=zeroValue5
 t9:=underlying9
 a9:=isAgg9
 z9:=sizeOf9
 v9:=zeroValue9
 t22:=underlying55
 a22:=isAgg55
 z22:=sizeOf55
 v22:=zeroValue55
 t23:=underlying55
 a23:=isAgg55
 z23:=sizeOf55
 v23:=zeroValue55
 t25:=underlying3
 a25:=isAgg3
 z25:=sizeOf3
 v25:=zeroValue3
 t32:=underlying190
 a32:=isAgg190
 z32:=sizeOf190
 v32:=zeroValue190
 t35:=underlying326
 a35:=isAgg326
 z35:=sizeOf326
 v35:=zeroValue326
 t36:=underlying327
 a36:=isAgg327
 z36:=sizeOf327
 v36:=zeroValue327
 t41:=underlying331
 a41:=isAgg331
 z41:=sizeOf331
 v41:=zeroValue331
 t44:=underlying195
 a44:=isAgg195
 z44:=sizeOf195
 v44:=zeroValue195
 t46:=underlying198
 a46:=isAgg198
 z46:=sizeOf198
 v46:=zeroValue198
 t53:=underlying336
 a53:=isAgg336
 z53:=sizeOf336
 v53:=zeroValue336
 t57:=underlying340
 a57:=isAgg340
 z57:=sizeOf340
 v57:=zeroValue340
 t63:=underlying342
 a63:=isAgg342
 z63:=sizeOf342
 v63:=zeroValue342
 t64:=underlying343
 a64:=isAgg343
 z64:=sizeOf343
 v64:=zeroValue343}
open Go.RowKit Go.PlainAid
open Go.Maps (Keyed IsMap has)
abbrev wrW (a:Int)(c:BA):Value:=.agg #[.int .i64 a,.string c]
def wrD (a:Int)(c:BA):DataW Unit:=.agg [.lit (.int .i64 a),.lit (.string c.data.toList)]
def wrR:Value->Option (DataW Unit×List MemPlace)
 |.agg cs=>match cs.toList with
  |[.int .i64 a,.string c]=>some (wrD a c,[])
  |_=>none
 |_=>none
theorem c4x (a:Int)(c:BA):wrR (wrW a c)=some (wrD a c,[]):=rfl
theorem c1r {v:Value}{a:Int}{c:BA}{ps:List MemPlace}(h:wrR v=some (wrD a c,ps)):v=wrW a c:=by
 unfold wrR at h
 split at h
 ·rename_i cs
  split at h
  ·rename_i a' c' cR
   simp only[wrD,Option.some.injEq,Prod.mk.injEq,DataW.agg.injEq,List.cons.injEq,DataW.lit.injEq,Lit.int.injEq,Lit.string.injEq,true_and,and_true]at h;obtain⟨⟨rfl,h2⟩,_⟩:=h;have hc:c'=c:=ByteArray.ext (Array.toList_inj.1 h2);subst hc;have:cs=#[.int .i64 a',.string c']:=Array.toList_inj.1 cR;rw[this]
  ·cases h
 ·cases h
theorem c9c:Keyed prog 3:=Go.Maps.int_keyed underlying3
theorem lit17 {k:Nat}(hk:k<16):(Lit.int .i64 (k:Int)).wf=true:=by
 show(decide (IntKind.i64.min<=(k:Int))&&decide ((k:Int)<=IntKind.i64.max))=true;rw[Bool.and_eq_true,decide_eq_true_eq,decide_eq_true_eq];have h1:IntKind.i64.min=-9223372036854775808:=by decide
 have h2:IntKind.i64.max=9223372036854775807:=by decide
 rw[h1,h2];omega
theorem d3z {k:Nat}(hk:k<16):keyOf prog 3 (.int .i64 (k:Int))=some (.int .i64 (k:Int)):=Go.Maps.keyOf_int_mk underlying3 (lit17 hk)
theorem a8s (w:World):(zeroValue 144).run prog w=.ok (wrW 0 noB) w:=by
 obtain⟨i0,hi,hz0,hz1,hz2⟩:=info_parts (show(prog.info? 144).map (λi=>(i.zero,i.size,i.bytes))=some (some (.agg #[.int .i64 0,.string noB]),2,24) by kernel_rfl);simp[zeroValue,typeInfo,hi,hz0]
def pF (f:Nat->Option BA)(k:Nat)(c:BA)(j:Nat):Option BA:=if j=k then some c else f j
theorem c3g (f:Nat->Option BA)(k:Nat)(c:BA):pF f k c k=some c:=qp rfl
theorem d2s (f:Nat->Option BA){k j:Nat}(c:BA)(h:j≠k):pF f k c j=f j:=qn h
def MapW (w:World)(b o n:Nat)(f:Nat->Option BA):Prop:=∃D:DataW Unit,w.ownsMap prog 3 wrR b n D/\IsMap D/\(∀x:Int,has D (.int .i64 x)=true↔∃k:Nat,k<16/\x=(k:Int)/\f k≠none)/\
 ∀(k:Nat) c,f k=some c->∀z,D.atKey (.int .i64 (k:Int)) z=wrD ((o+k:Nat):Int) c
def mapW (b o n:Nat)(f:Nat->Option BA):Asn:=λw F=>MapW w b o n f/\∀k,F k↔k=b
section
variable {w w':World}{b o n:Nat}{f:Nat->Option BA}
theorem MapW.lt (h:MapW w b o n f):b<w.heap.size:=by obtain⟨D,h1,_⟩:=h;exact h1.lt
theorem MapW.kept {F:Nat->Prop}(h:MapW w b o n f)(hk:Kept F w w')(hb:¬F b):MapW w' b o n f:=by
 have hl:=h.lt;obtain⟨D,⟨es,clock,h1,h2⟩,h3⟩:=h;exact⟨D,⟨es,clock,(hk.block b hl hb).trans h1,h2⟩,h3⟩
theorem MapW.below (h:MapW w b o n f)(hb:Below w.heap.size w w'):MapW w' b o n f:=h.kept (Kept.ofBelow (F:=λ_=>False) hb) (λh=>h)
theorem MapW.drew (h:MapW w b o n f):MapW w.drew b o n f:=h
theorem a6t (b o n:Nat)(f:Nat->Option BA):Firm (mapW b o n f):=
 ⟨λ⟨h1,h2⟩ hk hd=>⟨h1.kept hk (hd b ((h2 b).2 rfl)),h2⟩,λ⟨h1,h2⟩ k hk=>by rw[(h2 k).1 hk];exact h1.lt⟩
theorem d3l (w:World)(o:Nat):MapW (w.alloc (.map #[] 0)) w.heap.size o 0 (λ_=>none):=
 ⟨.map [],World.ownsMap_made w _ _ _,Go.Maps.isMap_empty,λx=>⟨λh=>(by cases h),λ⟨k,_,_,h⟩=>absurd rfl h⟩,λk c h=>by cases h⟩
theorem MapW.look (h:MapW w b o n f){k:Nat}(hk:k<16){c:BA}(hf:f k=some c):
 (Instr.lookup 149 (.map (some b)) (.int .i64 (k:Int)) true).run prog w=.ok (.tuple #[wrW ((o+k:Nat):Int) c,.bool true]) w/\(Instr.lookup 149 (.map (some b)) (.int .i64 (k:Int)) false).run prog w=.ok (wrW ((o+k:Nat):Int) c) w:=by
 obtain⟨D,h1,h2,h3,h4⟩:=h;have hh:has D (.int .i64 (k:Int))=true:=(h3 _).2 ⟨k,hk,rfl,by rw[hf];simp⟩;obtain⟨v,ps,r6,hv⟩:=h1.look_ok c9c underlying149 (a8s w) (c4x 0 noB) (d3z hk);obtain⟨v2,ps2,nF,hv2⟩:=h1.lookup c9c underlying149 (a8s w) (c4x 0 noB) (d3z hk);rw[h4 k c hf]at hv hv2;rw[hh,c1r hv]at r6;rw[c1r hv2]at nF;exact⟨r6,nF⟩
theorem MapW.lookNone (h:MapW w b o n f){k:Nat}(hk:k<16)(hf:f k=none):
 (Instr.lookup 149 (.map (some b)) (.int .i64 (k:Int)) true).run prog w=.ok (.tuple #[wrW 0 noB,.bool false]) w:=by
 obtain⟨D,h1,h2,h3,h4⟩:=h;have hh:has D (.int .i64 (k:Int))=false:=by
  cases e:has D (.int .i64 (k:Int))
  ·rfl
  ·obtain⟨j,hj,e1,e2⟩:=(h3 _).1 e;obtain rfl:k=j:=(by omega);exact absurd hf e2
 obtain⟨v,ps,r6,hv⟩:=h1.look_ok c9c underlying149 (a8s w) (c4x 0 noB) (d3z hk);rw[Go.Maps.atKey_of_not_has hh]at hv;rw[hh,c1r hv]at r6;exact r6
theorem e5a (w:World){k:Nat}(hk:k<16):(Instr.lookup 149 (.map none) (.int .i64 (k:Int)) true).run prog w=.ok (.tuple #[wrW 0 noB,.bool false]) w:=
 Go.Maps.look_nil true c9c underlying149 (a8s w) (d3z hk)
theorem MapW.put (h:MapW w b o n f)(hn:n<=1000000){k:Nat}(hk:k<16)(c:BA):
 ∃w',(Instr.mapUpdate 149 (.map (some b)) (.int .i64 (k:Int)) (wrW ((o+k:Nat):Int) c)).run prog w=.ok () w'/\MapW w' b o (n+1) (pF f k c)/\Kept (λi=>i=b) w w':=by
 obtain⟨D,h1,h2,h3,h4⟩:=h;obtain⟨w',r6,h5,h6⟩:=h1.update c9c underlying149 (by unfold maxLen;omega) (d3z hk) (c4x ((o+k:Nat):Int) c);have kW:Go.WideAt.IsKeyLit (Lit.int .i64 (k:Int)):=trivial;refine⟨w',r6,⟨_,h5,by obtain⟨es,rfl⟩:=h2;exact⟨_,rfl⟩,λx=>?_,λj d hj z=>?_⟩,⟨h6.os,h6.tape,h6.output,h6.size,λi hi y6=>h6.block i hi (λe=>y6 (Option.some.inj e))⟩⟩
 ·by_cases e:x=(k:Int)
  ·subst e;rw[Go.Maps.has_put_same h2 kW];exact⟨λ_=>⟨k,hk,rfl,by rw[c3g];simp⟩,λ_=>rfl⟩
  ·rw[Go.Maps.has_put_other (by simpa using e),h3 x];constructor
   ·rintro⟨j,a1,a2,a3⟩;exact⟨j,a1,a2,by rw[d2s _ _ (by omega)];exact a3⟩
   ·rintro⟨j,a1,a2,a3⟩;exact⟨j,a1,a2,by rw[d2s _ _ (by omega)]at a3;exact a3⟩
 ·by_cases e:j=k
  ·subst e;rw[c3g]at hj
   cases hj
   exact Go.Maps.atKey_put_same h2 kW _ _
  ·rw[d2s _ _ e]at hj;rw[Go.Maps.atKey_put_other (by simp;omega)];exact h4 j d hj z
end
section
variable {B:Nat}{w0 w:World}{b o n:Nat}{f:Nat->Option BA}{R:Asn}
theorem Hold.mapw (h:Hold B w0 w (star (mapW b o n f) R)):MapW w b o n f:=by
 obtain⟨h1,h2,F,⟨G,H,h3,h4⟩,h7⟩:=h;exact h3.1
theorem Hold.mapwNew (hR:Firm R)(h:Hold B w0 w R)(o:Nat):Hold B w0 (w.alloc (.map #[] 0)) (star (mapW w.heap.size o 0 (λ_=>none)) R):=
 Hold.new hR h ((qw _ _).alloc (ql _) _) (G:=λk=>k=w.heap.size) ⟨d3l w o,λ_=>Iff.rfl⟩ (λk hk=>Nat.le_of_eq hk.symm)
theorem Hold.mapwPut (hR:Firm R)(h:Hold B w0 w (star (mapW b o n f) R))(hn:n<=1000000){k:Nat}(hk:k<16)(c:BA):
 ∃w',(Instr.mapUpdate 149 (.map (some b)) (.int .i64 (k:Int)) (wrW ((o+k:Nat):Int) c)).run prog w=.ok () w'/\Hold B w0 w' (star (mapW b o (n+1) (pF f k c)) R):=by
 obtain⟨h1,h2,F,⟨G,H,⟨m1,m2⟩,h4,h5,h6⟩,h7⟩:=h;obtain⟨w',r6,hs,hk⟩:=m1.put hn hk c;exact⟨w',r6,Hold.turned hR h1 h2 h4 h5 (λk hk=>h7 k ((h6 k).2 hk)) ⟨G,⟨hs,m2⟩,hk.mono (λk _ e=>(m2 k).2 e),λk hk=>.inl hk⟩⟩
end
def ksN (f:Nat->Option BA):List Nat:=(List.range 16).filter λk=>(f k).isSome
def ksL (f:Nat->Option BA):List Int:=(ksN f).map λ(k:Nat)=>(k:Int)
theorem c3u {f:Nat->Option BA}{k:Nat}:k∈ksN f↔k<16/\f k≠none:=by
 unfold ksN;rw[List.mem_filter,List.mem_range]
 cases f k<;>simp
theorem b5o (f:Nat->Option BA):(ksN f).Pairwise (·<·):=List.Pairwise.filter _ List.pairwise_lt_range
theorem a5n (f:Nat->Option BA):(ksN f).length<=16:=by
 have:=List.length_filter_le (λk=>(f k).isSome) (List.range 16);rw[List.length_range]at this;exact this
theorem MapW.keys {w:World}{b n:Nat}{f:Nat->Option BA}{D:DataW Unit}(h1:w.ownsMap prog 3 wrR b n D)(h3:∀x:Int,has D (.int .i64 x)=true↔∃k:Nat,k<16/\x=(k:Int)/\f k≠none){ss:List Int}(hs:ss.Perm (intKeys D)):ss.mergeSort leI=ksL f:=by
 have hc:CollectedI D (λ_=>false) (ksL f):=by
  refine⟨?_,λx=>?_⟩
  ·unfold ksL;exact List.pairwise_map.2 ((b5o f).imp fun {a b} h e=>by omega)
  ·unfold ksL;rw[List.mem_map];constructor
   ·rintro⟨k,hk,rfl⟩;obtain⟨k1,k2⟩:=c3u.1 hk;exact⟨(h3 _).2 ⟨k,k1,rfl,k2⟩,rfl⟩
   ·rintro⟨hx,_⟩;obtain⟨k,k1,rfl,k2⟩:=(h3 x).1 hx;exact⟨k,c3u.2 ⟨k1,k2⟩,rfl⟩
 have hp:=hc.perm h1 c9c underlying3 (λ_=>rfl);rw[mergeSort_of_perm_i (hs.trans hp.symm)];refine List.mergeSort_of_pairwise ?_;unfold ksL;exact List.pairwise_map.2 ((b5o f).imp fun {a b} h=>decide_eq_true (by omega))
theorem e4a (m:Nat):AnyZI.SortsIn prog b5n Fence.wide m:=
 ⟨λblk off cap ss W hH bS aA=>callsIn_wide.2 (AnyM.slices_Sort_int e8j blk off cap ss W hH bS aA),
  λp cap W=>callsIn_wide.2 (AnyM.slices_Sort_int_none e8j p cap W)⟩
theorem c8e {w:World}{b o n:Nat}{f:Nat->Option BA}(h:MapW w b o n f)(hn:n<=1000000):Calls prog 130 #[.map (some b)] w λe w'=>∃v,e=.returned v/\w'.ownsRow w.heap.size 3 1 v (ksN f).length ((ksL f).map encZ)/\Below w.heap.size w w':=by
 obtain⟨D,h1,h2,h3,h4⟩:=h;refine(callsIn_wide (n:=6)).1 ?_;have cL:=h1.lt;have aA:=h1.size_le;have hseq:Go.SeqGives Fence.wide 2 prog 215 #[.pointer (some ⟨w.heap.size,0,none⟩)] encZ (λss=>ss.Perm (intKeys D)) (Go.Maps.size D) (w.alloc (.cells #[.map (some b)] 149)):=
  AnyZI.keys_gives (ρ:=c5w) {e8k with} Fence.wide _ trivial rfl (by omega) w.heap.size b n D _ (by simp) (by simp) (by
   obtain⟨es,clock,hb,Ft,hs,hD⟩:=h1;exact⟨es,clock,(Below.heap_alloc _ _ b cL).trans hb,Ft,hs,hD⟩)
 have cK:∀mb W,Go.CallsIn Fence.wide 5 prog 179 #[.map mb] W λe w'=>e=.returned (.func (.func 215) #[] #[.pointer (some ⟨W.heap.size,0,none⟩)])/\w'=W.alloc (.cells #[.map mb] 149):=λmb W=>AnyZI.keys_in e8k Fence.wide 5 trivial rfl mb W;have cS:=AnyZI.sorted_in e5i Fence.wide 5 trivial trivial trivial trivial rfl (by omega) (e4a _) (enters_of func214 (by kernel_rfl) rfl) 215 #[.pointer (some ⟨w.heap.size,0,none⟩)] trivial (enters_of func215 (by kernel_rfl) rfl) _ _ (by unfold maxLen;omega) (by omega) _ hseq;change Go.CallsIn _ _ prog 178 _ _ _ at cS;have hfK:Fence.wide.fn 179:=trivial;have hfS:Fence.wide.fn 178:=trivial;have HK:Hid (∀ss:List Int,ss.Perm (intKeys D)->ss.mergeSort leI=ksL f):=λss hs=>MapW.keys h1 h3 hs;refine callsIn_of_wp func130 rfl trivial ?_ rfl;simp only[ntmps130,List.size_toArray,List.length_cons,List.length_nil,Nat.reduceAdd,Nat.reduceSub,Array.replicate_succ,Array.replicate_zero,List.push_toArray,List.append_toArray,List.nil_append,List.cons_append]
 gi_wp2_with (first
  |(gi_at_call 179;refine(cK _ _).mono ?_;rintro e w' ⟨rfl,rfl⟩)
  |(gi_at_call 178;refine cS.mono ?_;rintro e w' ⟨v,ss,rfl,hS,x9,hnil,hb⟩))
 go_ret;have e1:=HK.out ss hS;have e2:ss.length=(ksN f).length:=by
  have:=(List.mergeSort_perm ss leI).length_eq;rw[e1]at this;rw[<-this];unfold ksL;rw[List.length_map]
 rw[e1,e2]at x9;exact⟨v,rfl,ownsRow_base_a x9 (by simp),((qw _ w).alloc (ql _) _).trans (hb.mono (by simp))⟩
theorem a7g {w:World}{b b':Nat}{e:TypeId}{size:Nat}{v:Value}{n:Nat}{xs:List Value}(h:w.ownsRow b e size v n xs)(hb:b'<=b):w.ownsRow b' e size v n xs:=by
 refine⟨h.1,?_⟩;rcases h.2 with hn|⟨g,cap,cur,h1,h2,h3⟩
 ·exact .inl hn
 ·exact .inr ⟨g,cap,cur,h1,Nat.le_trans hb h2,h3⟩
theorem c8w {w:World}{b:Nat}{e:TypeId}{size:Nat}{v:Value}{n:Nat}{xs:List Value}(h:w.ownsRow b e size v n xs)(k:Nat)(hk:v.ownBlock=some k):b<=k:=by
 rcases h.2 with⟨hn,_⟩|⟨g,cap,cur,h1,h2,h3⟩
 ·rw[hn]at hk;cases hk
 ·rw[h1]at hk;cases hk;exact h2
theorem a2a {w:World}{b:Nat}{e:TypeId}{size:Nat}{v:Value}{n:Nat}{xs:List Value}(h:w.ownsRow b e size v n xs):∃a c,v=.slice a n c:=by
 rcases h.2 with⟨hn,h0⟩|⟨g,cap,cur,h1,h2,h3⟩
 ·rw[hn,h0];exact⟨none,0,rfl⟩
 ·exact⟨_,_,h1⟩
theorem a2b {w:World}{b:Nat}{e:TypeId}{size:Nat}{a:Option Addr}{n c:Nat}{xs:List Value}(h:w.ownsRow b e size (.slice a n c) n xs){i:Nat}{u:Value}(hu:xs[i]?=some u):∃g,a=some ⟨g,0,none⟩/\w.cell? ⟨g,i,none⟩=some u:=by
 have hl:=h.1;have hi:i<n*size:=by
  rcases Nat.lt_or_ge i (n*size)with h'|h'
  ·exact h'
  ·rw[List.getElem?_eq_none (by omega)]at hu;cases hu
 rcases h.2 with⟨h1,h2⟩|⟨g',cap,cur,h1,_⟩
 ·subst h2;omega
 ·cases h1
  exact⟨g',rfl,by rw[h.cellAt i hi];exact hu⟩
section
variable {B:Nat}{w0 w w':World}{R:Asn}{T:TypeId}{K:Nat}{v:Value}{m:Nat}{xs:List Value}
theorem Hold.newRow (hR:Firm R)(h:Hold B w0 w R)(hb:Below w.heap.size w w')(hr:w'.ownsRow w.heap.size T K v m xs):Hold B w0 w' (star (Go.Proofs.YtokknmkleceooaaGreatDoor.rowK T K v m xs) R):=
 Hold.new hR h hb (G:=λk=>v.ownBlock=some k) ⟨a7g hr (Nat.zero_le _),λ_=>Iff.rfl⟩ (λk hk=>c8w hr k hk)
theorem a2g {P:Asn}{F:Nat->Prop}(h:P w F):star (rowK T K (.slice none 0 0) 0 []) P w F:=
 ⟨λ_=>False,F,⟨⟨by simp,.inl ⟨rfl,rfl⟩⟩,λk=>⟨λh=>h.elim,λh=>by cases h⟩⟩,h,λ_ h=>h.elim,λk=>by simp⟩
theorem Hold.rowBack (h:Hold B w0 w (star (Go.Proofs.YtokknmkleceooaaGreatDoor.rowK T K v m xs) R)):w.ownsRow B T K v m xs:=by
 obtain⟨h1,h2,F,⟨G,H,⟨h3,h4⟩,h5,h6,h7⟩,h8⟩:=h;refine⟨h3.1,?_⟩;rcases h3.2 with hn|⟨g,cap,cur,a1,a2,a3⟩
 ·exact .inl hn
 ·exact .inr ⟨g,cap,cur,a1,h8 g ((h7 g).2 (.inl ((h4 g).2 (by rw[a1];rfl)))),a3⟩
theorem b2b (hR:Firm R)(sl T ty:TypeId)(z:Value)(K by_:Nat)(hu:prog.underlying sl=some (.slice T))(hT:(prog.info? T).map (λi=>(i.zero,i.size,i.bytes))=some (some z,K,by_))(hz:z.cells.size=K)(hK:0<K)(gB:by_<=40)
 (h:Hold B w0 w (star (rowK T K v m xs) R))(hm:m<=1000)(row:List Value)(hl:row.length=K)(h1:∀u∈row,u.oneCell'=true):
 ∃a c w',(Builtin.append_ #[sl,sl] ty #[v,.slice (some ⟨w.heap.size,0,none⟩) 1 1]).run prog (w.alloc (.cells row.toArray T))=.ok (.slice a (m+1) c) w'/\Hold B w0 w' (star (rowK T K (.slice a (m+1) c) (m+1) (xs++row)) R):=by
 have h2:=h.below ((a0d _ _ _ _ _).star hR) ((qw w.heap.size w).alloc (ql _) (.cells row.toArray T));obtain⟨v',w',r6,h3⟩:=c5d hR sl T ty z K by_ hu hT hz hK gB h2 ⟨w.heap.size,0,none⟩ 1 1 row (by omega) (λj u hu=>by
  rw[Go.WideShapes.add_plain,Nat.zero_add];exact(Blk.new w T row.toArray).cell (by simpa using hu)) h1 (by omega)
 obtain⟨a,c,rfl⟩:=c5i h3.rowK;exact⟨a,c,w',r6,h3⟩
end
end Go.Proofs.YtokknmkleceooaaGreatDoor
