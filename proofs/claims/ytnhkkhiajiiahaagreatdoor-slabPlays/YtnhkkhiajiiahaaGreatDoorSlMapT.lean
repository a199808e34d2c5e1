import Derived.Test.YtnhkkhiajiiahaaGreatDoorSlPrep0
import Derived.Maps.StringElems
import Derived.StringKeys
namespace Go.Proofs.YtnhkkhiajiiahaaGreatDoor
open Go.RowKit Go.PlainAid
open Go.Maps (Keyed IsMap has)
set_option linter.unusedVariables false
set_option maxRecDepth 20000
theorem key9t:Keyed Tryz.prog 9:=Go.Maps.string_keyed Tryz.underlying9
theorem zero9t (w:World):(zeroValue 9).run Tryz.prog w=.ok (.string noB) w:=by
 obtain⟨i0,hi,hz⟩:=Option.map_eq_some_iff.1 (show(Tryz.prog.info? 9).map (fun i=>i.zero)=some (some (.string noB)) by kernel_rfl)
 simp[zeroValue,typeInfo,hi,hz]
theorem lit_inj {a b:ByteArray}(h:Lit.string a.data.toList=Lit.string b.data.toList):a=b:=ByteArray.ext (Array.toList_inj.1 (Lit.string.inj h))
def pT (f:ByteArray→Option ByteArray)(k c:ByteArray)(j:ByteArray):Option ByteArray:=if j=k then some c else f j
theorem pT_same (f:ByteArray→Option ByteArray)(k c:ByteArray):pT f k c k=some c:=if_pos rfl
theorem pT_ne (f:ByteArray→Option ByteArray){k j:ByteArray}(c:ByteArray)(h:j≠k):pT f k c j=f j:=if_neg h
def MapT (w:World)(b n:Nat)(f:ByteArray→Option ByteArray):Prop:=∃D:DataW Unit,w.ownsMap Tryz.prog 9 (plainElem Tryz.prog 9) b n D∧IsMap D∧(∀x:ByteArray,has D (.string x.data.toList)=true↔f x≠none)∧
 ∀(x c:ByteArray),f x=some c→∀z,D.atKey (.string x.data.toList) z=.lit (.string c.data.toList)
section
variable {w w':World}{b n:Nat}{f:ByteArray→Option ByteArray}
theorem MapT.lt (h:MapT w b n f):b<w.heap.size:=by obtain⟨D,h1,_⟩:=h;exact h1.lt
theorem MapT.kept {F:Nat→Prop}(h:MapT w b n f)(hk:Kept F w w')(hb:¬F b):MapT w' b n f:=by
 have hl:=h.lt
 obtain⟨D,⟨es,clock,h1,h2⟩,h3⟩:=h
 exact⟨D,⟨es,clock,(hk.block b hl hb).trans h1,h2⟩,h3⟩
theorem str_inv {v:Value}{c:ByteArray}{ps:List MemPlace}(h:plainElem (H:=Unit) Tryz.prog 9 v=some (.lit (.string c.data.toList),ps)):v=.string c:=by
 obtain⟨s,rfl,h2,_⟩:=plainElem_string_inv Tryz.underlying9 h
 rw[Prod.mk.injEq]at h2
 have h3:Lit.string c.data.toList=Lit.string s.data.toList:=DataW.lit.inj h2.1
 rw[lit_inj h3]
theorem MapT.look (h:MapT w b n f){x c:ByteArray}(hx:x.size≤maxLen)(hf:f x=some c):
 (Instr.lookup 62 (.map (some b)) (.string x) true).run Tryz.prog w=.ok (.tuple #[.string c,.bool true]) w:=by
 obtain⟨D,h1,h2,h3,h4⟩:=h
 have hh:has D (.string x.data.toList)=true:=(h3 _).2 (by rw[hf];simp)
 obtain⟨v,ps,hrun,hv⟩:=h1.look_ok key9t Tryz.underlying62 (zero9t w) (plainElem_string Tryz.underlying9 (s:=noB) (by decide)) (Go.WideMaps.keyOf_string_mk Tryz.underlying9 hx)
 rw[h4 x c hf]at hv
 rw[hh,str_inv hv]at hrun
 exact hrun
theorem MapT.lookNone (h:MapT w b n f){x:ByteArray}(hx:x.size≤maxLen)(hf:f x=none):
 (Instr.lookup 62 (.map (some b)) (.string x) true).run Tryz.prog w=.ok (.tuple #[.string noB,.bool false]) w:=by
 obtain⟨D,h1,h2,h3,h4⟩:=h
 have hh:has D (.string x.data.toList)=false:=by
  cases e:has D (.string x.data.toList)
  ·rfl
  exact absurd hf ((h3 _).1 e)
 obtain⟨v,ps,hrun,hv⟩:=h1.look_ok key9t Tryz.underlying62 (zero9t w) (plainElem_string Tryz.underlying9 (s:=noB) (by decide)) (Go.WideMaps.keyOf_string_mk Tryz.underlying9 hx)
 rw[Go.Maps.atKey_of_not_has hh]at hv
 rw[hh,str_inv hv]at hrun
 exact hrun
theorem MapT.put (h:MapT w b n f)(hn:n≤1000000){x c:ByteArray}(hx:x.size≤maxLen)(hc:c.size≤maxLen):
 ∃w',(Instr.mapUpdate 62 (.map (some b)) (.string x) (.string c)).run Tryz.prog w=.ok () w'∧MapT w' b (n+1) (pT f x c)∧Kept (fun i=>i=b) w w':=by
 obtain⟨D,h1,h2,h3,h4⟩:=h
 obtain⟨w',hrun,h5,h6⟩:=h1.update key9t Tryz.underlying62 (by unfold maxLen;omega) (Go.WideMaps.keyOf_string_mk Tryz.underlying9 hx) (plainElem_string Tryz.underlying9 hc)
 have hkl:Go.WideAt.IsKeyLit (Lit.string x.data.toList):=trivial
 refine⟨w',hrun,⟨_,h5,by obtain⟨es,rfl⟩:=h2;exact⟨_,rfl⟩,fun y=>?_,fun j d hj z=>?_⟩,⟨h6.os,h6.tape,h6.output,h6.size,fun i hi hne=>h6.block i hi (fun e=>hne (Option.some.inj e))⟩⟩
 ·by_cases e:y=x
  ·subst e
   rw[Go.Maps.has_put_same h2 hkl,pT_same]
   simp
  rw[Go.Maps.has_put_other (fun e'=>e (lit_inj e')),h3 y,pT_ne _ _ e]
 by_cases e:j=x
 ·subst e
  rw[pT_same]at hj
  cases hj
  exact Go.Maps.atKey_put_same h2 hkl _ _
 rw[pT_ne _ _ e]at hj
 rw[Go.Maps.atKey_put_other (fun e'=>e (lit_inj e'))]
 exact h4 j d hj z
end
end Go.Proofs.YtnhkkhiajiiahaaGreatDoor
