import Derived.Test.YtokknmkleceooaaGreatDoorBaseM
import Derived.Shelf.Strings.Builder1
import Derived.Shelf.Strings.BuilderK
namespace Go.Proofs.YtokknmkleceooaaGreatDoor
set_option linter.unusedVariables false
set_option maxRecDepth 20000
set_option maxHeartbeats 8000000
open Go.Proofs.Tryz
open Go.RowKit Go.PlainAid Go.Shelf
def e6t:Go.Shelf.Ren:=⟨fun|166=>151|240=>196|276=>229|n=>n,fun|0=>0|3=>3|4=>4|5=>5|9=>9|20=>20|37=>22|70=>228|72=>230|75=>232|80=>227|164=>307|n=>n,fun|n=>n⟩
theorem e6u:Go.Proofs.Lays.n166 prog e6t:={
 mixed:=by kernel_rfl
 f166:=func151.trans (congrArg some (by kernel_rfl))
 f240:=func196.trans (congrArg some (by kernel_rfl))
 f276:=func229.trans (congrArg some (by kernel_rfl))
 t0:=underlying0
 a0:=isAgg0
 z0:=sizeOf0
 v0:=zeroValue0
 t3:=underlying3
 a3:=isAgg3
 z3:=sizeOf3
 v3:=zeroValue3
 t4:=underlying4
 a4:=isAgg4
 z4:=sizeOf4
 v4:=zeroValue4
 t9:=underlying9
 a9:=isAgg9
 z9:=sizeOf9
 v9:=zeroValue9
 t20:=underlying20
 a20:=isAgg20
 z20:=sizeOf20
 v20:=zeroValue20
 t37:=underlying22
 a37:=isAgg22
 z37:=sizeOf22
 v37:=zeroValue22
 t70:=underlying228
 a70:=isAgg228
 z70:=sizeOf228
 v70:=zeroValue228
 t72:=underlying230
 a72:=isAgg230
 z72:=sizeOf230
 v72:=zeroValue230
 t75:=underlying232
 a75:=isAgg232
 z75:=sizeOf232
 v75:=zeroValue232
 t164:=underlying307
 a164:=isAgg307
 z164:=sizeOf307
 v164:=zeroValue307}
theorem e3i:Builder.Extra prog e6t:={
 sizeBuilder:=by kernel_rfl
 liesBuilder:=by kernel_rfl
 t5:=underlying5
 a5:=isAgg5
 z5:=sizeOf5
 v5:=zeroValue5
 infoByte:=by kernel_rfl
 cellsByte:=by kernel_rfl
 sizeByte:=by kernel_rfl
 neB5:=by decide}
def e7h:Go.Shelf.Ren:=⟨fun|169=>153|n=>n,fun|0=>0|3=>3|5=>5|9=>9|37=>22|70=>228|72=>230|127=>275|n=>n,fun|n=>n⟩
theorem e7i:Go.Proofs.Lays.n169 prog e7h:={
 mixed:=by kernel_rfl
 f169:=func153.trans (congrArg some (by kernel_rfl))
 t0:=underlying0
 a0:=isAgg0
 z0:=sizeOf0
 v0:=zeroValue0
 t3:=underlying3
 a3:=isAgg3
 z3:=sizeOf3
 v3:=zeroValue3
 t9:=underlying9
 a9:=isAgg9
 z9:=sizeOf9
 v9:=zeroValue9
 t37:=underlying22
 a37:=isAgg22
 z37:=sizeOf22
 v37:=zeroValue22
 t70:=underlying228
 a70:=isAgg228
 z70:=sizeOf228
 v70:=zeroValue228
 t72:=underlying230
 a72:=isAgg230
 z72:=sizeOf230
 v72:=zeroValue230
 t127:=underlying275
 a127:=isAgg275
 z127:=sizeOf275
 v127:=zeroValue275}
theorem e3x:Builder.Extra prog e7h:={
 sizeBuilder:=by kernel_rfl
 liesBuilder:=by kernel_rfl
 t5:=underlying5
 a5:=isAgg5
 z5:=sizeOf5
 v5:=zeroValue5
 infoByte:=by kernel_rfl
 cellsByte:=by kernel_rfl
 sizeByte:=by kernel_rfl
 neB5:=by decide}
def BufAt (w:World)(b:Nat)(s:BA):Prop:=Lib.IsBuilder 230 5 b b (Lib.strCells s) w
theorem BufAt.lt {w:World}{b:Nat}{s:BA}(h:BufAt w b s):b<w.heap.size:=by
 rcases h with h|h
 ·exact h.lt
 ·exact h.lt
theorem a7a {T e:TypeId}{B b:Nat}{p:Value}{bs:List Value}{w w':World}(h:Lib.BuilderAt T e B b p bs w)(hb:Below w.heap.size w w'):Lib.BuilderAt T e B b p bs w':=by
 have p9:=h.lt;obtain⟨hB,v,aS,q8,y6⟩:=h;exact⟨hB,v,by rw[hb.block b p9];exact aS,a3d q8 hb,y6⟩
theorem BufAt.below {w w':World}{b:Nat}{s:BA}(h:BufAt w b s)(hb:Below w.heap.size w w'):BufAt w' b s:=by
 rcases h with h|h
 ·exact .inl (a7a h hb)
 ·exact .inr (a7a h hb)
theorem BufAt.set {w:World}{b k:Nat}{s:BA}(h:BufAt w b s)(hk:k<b)(i:Nat)(v:Value):BufAt (w.setCell ⟨k,i,none⟩ v) b s:=by
 have key:∀p,Lib.BuilderAt 230 5 b b p (Lib.strCells s) w->Lib.BuilderAt 230 5 b b p (Lib.strCells s) (w.setCell ⟨k,i,none⟩ v):=by
  rintro p ⟨hB,u,aS,q8,y6⟩;have dO:w.grownBy (w.setCell ⟨k,i,none⟩ v) (some k):=⟨rfl,rfl,rfl,by simp,λj hj y6=>Below.heap_setCell w ⟨k,i,none⟩ v j (λe=>y6 (by rw[e]))⟩;refine⟨hB,u,by rw[Below.heap_setCell w ⟨k,i,none⟩ v b (by show b≠k;omega)];exact aS,q8.kept dO ?_,y6⟩
  cases hv:u.ownBlock with
  |none=>exact .inl rfl
  |some g=>exact .inr (λe=>by have:=(q8.lt g hv).1;cases e;omega)
 rcases h with h|h
 ·exact .inl (key _ h)
 ·exact .inr (key _ h)
theorem BufAt.drew {w:World}{b:Nat}{s:BA}(h:BufAt w b s):BufAt w.drew b s:=by
 rcases h with h|h
 ·exact .inl h.drew
 ·exact .inr h.drew
theorem BufAt.new (w:World):BufAt (w.alloc (.cells #[.pointer none,.slice none 0 0] 230)) w.heap.size ⟨#[]⟩:=
 .inl ⟨ql _,.slice none 0 0,Array.getElem?_push_size,World.ownsRow_nil _ _ _ _,by simp[Value.ownBlock]⟩
theorem b2y (s t:BA):Lib.strCells (s++t)=Lib.strCells s++Lib.strCells t:=by simp[Lib.strCells,ByteArray.data_append]
theorem d5t (b:Nat)(s t:BA)(w:World)(h:BufAt w b s)(aA:s.size+t.size<=1000000000):
 Calls prog 151 #[.pointer (some ⟨b,0,none⟩),.string t] w λe w'=>e=.returned (.tuple #[.int .i64 t.size,.nilIface])/\BufAt w' b (s++t)/\Below b w w':=by
 refine(Any.Builder_WriteString e6u e3i b b (Lib.strCells s) t w h (by rw[Lib.strCells_length];omega) (Nat.le_of_lt h.lt)).mono ?_;rintro e w' ⟨rfl,hB,hb⟩;exact⟨rfl,.inr (by rw[b2y];exact hB),hb⟩
theorem c9t (b:Nat)(s:BA)(w:World)(h:BufAt w b s):
 Calls prog 153 #[.pointer (some ⟨b,0,none⟩)] w λe w'=>e=.returned (.string s)/\Below b w w':=by
 have h':Lib.IsBuilder 230 5 b b (Lib.byteCells s.data.toList) w:=h;exact Any.Builder_String_any e7i e3x b b s.data.toList w h' (Nat.le_of_lt h.lt)
def BufK (w:World)(b:Nat)(s:BA):Prop:=Lib.IsBuilderF 230 5 b b (Lib.strCells s) w
theorem BufK.lt {w:World}{b:Nat}{s:BA}(h:BufK w b s):b<w.heap.size:=by
 rcases h with h|h
 ·exact h.lt
 ·exact h.lt
theorem a6e {T e:TypeId}{B b:Nat}{p:Value}{bs:List Value}{w w':World}(h:Lib.BuilderAtF T e B b p bs w)(hb:Below w.heap.size w w'):Lib.BuilderAtF T e B b p bs w':=by
 have p9:=h.lt;obtain⟨hB,v,aS,q8,y6⟩:=h;refine⟨hB,v,by rw[hb.block b p9];exact aS,q8.kept (row:=none) ⟨hb.os,hb.tape,hb.output,hb.size,λk hk _=>hb.block k hk⟩ ?_,y6⟩
 cases v.ownBlock with
 |none=>exact .inl rfl
 |some g=>exact .inr (by simp)
theorem BufK.below {w w':World}{b:Nat}{s:BA}(h:BufK w b s)(hb:Below w.heap.size w w'):BufK w' b s:=by
 rcases h with h|h
 ·exact .inl (a6e h hb)
 ·exact .inr (a6e h hb)
theorem BufK.new (w:World):BufK (w.alloc (.cells #[.pointer none,.slice none 0 0] 230)) w.heap.size ⟨#[]⟩:=Lib.IsBuilderF.of (BufAt.new w)
theorem Blk.others {w w':World}{g b:Nat}{T:TypeId}{L:List Value}(h:Blk w g T L)(ho:Lib.OthersKept 5 (some b) w w')(hg:g≠b)(hT:T≠5):Blk w' g T L:=
 ho g _ h (λe=>hg (Option.some.inj e)) (λc fz e=>hT (by cases e;rfl))
end Go.Proofs.YtokknmkleceooaaGreatDoor
