import Derived.Test.YtnhkkhiajiiahaaGreatDoorSlRBad
import Derived.Test.YtnhkkhiajiiahaaGreatDoorSlFact
namespace Go.Proofs.YtnhkkhiajiiahaaGreatDoor
open Go.RowKit Go.PlainAid
set_option linter.unusedVariables false
set_option maxRecDepth 20000
def bls (C:Nat→Bool):List Value:=(List.range 16).map fun j=>.bool (C j)
theorem bls_at (C:Nat→Bool)(j:Nat)(h:j<16):(bls C)[j]?=some (.bool (C j)):=by simp[bls,h]
theorem bls_length (C:Nat→Bool):(bls C).length=16:=by simp[bls]
def upB (C:Nat→Bool)(k:Nat)(j:Nat):Bool:=if j=k then true else C j
theorem bls_set (C:Nat→Bool)(k:Nat):(bls C).set k (.bool true)=bls (upB C k):=by
 apply List.ext_getElem?
 intro j
 rw[List.getElem?_set]
 by_cases h:k=j
 ·subst h
  by_cases h2:k<16
  ·rw[if_pos rfl,if_pos (by rw[bls_length];exact h2),bls_at _ _ h2];simp[upB]
  rw[if_pos rfl,if_neg (by rw[bls_length];exact h2),List.getElem?_eq_none (by rw[bls_length];omega)]
 rw[if_neg h]
 unfold bls
 rw[List.getElem?_map,List.getElem?_map]
 by_cases h2:j<16
 ·rw[List.getElem?_range h2];simp[upB,Ne.symm h]
 rw[List.getElem?_eq_none (by simp;omega)];rfl
theorem zero16b (w:World):(zeroValue 189).run Tryz.prog w=.ok (.agg (bls fun _=>false).toArray) w:=by
 obtain⟨i0,hi,hz⟩:=Option.map_eq_some_iff.1 (show(Tryz.prog.info? 189).map (fun i=>i.zero)=some (some (.agg (bls fun _=>false).toArray)) by kernel_rfl)
 simp[zeroValue,typeInfo,hi,hz]
theorem cfT_put (f:Nat→Option ByteArray)(k:Nat)(c:ByteArray):upd (cfT f) (k,c)=cfT (pF f k c):=by
 funext j
 unfold upd cfT pF
 by_cases e:j=k
 ·rw[if_pos e,if_pos e];rfl
 rw[if_neg e,if_neg e]
def sset (e:Nat→Option ByteArray)(j:Nat):Bool:=(e j).isSome
theorem sset_put (e:Nat→Option ByteArray)(k:Nat)(c:ByteArray):upB (sset e) k=sset (pF e k c):=by
 funext j
 unfold upB sset pF
 by_cases h:j=k
 ·rw[if_pos h,if_pos h];rfl
 rw[if_neg h,if_neg h]
theorem Szd.full {S:Sl}(h:Szd S):Full S.ch:=fun k c hk=>by have:=(h.1 k c hk).2;omega
def rpA (w:World)(sb:List Value)(gA gB gC:Nat)(A B:Nat→ByteArray)(C:Nat→Bool):Asn:=star (blkA gA 143 (strs 16 A)) (star (blkA gB 143 (strs 16 B)) (star (blkA gC 189 (bls C)) (star (blkA w.heap.size 44 sb) nought)))
theorem firm_rpA (w:World)(sb:List Value)(gA gB gC:Nat)(A B:Nat→ByteArray)(C:Nat→Bool):Firm (rpA w sb gA gB gC A B C):=(firm_blk _ _ _).star ((firm_blk _ _ _).star ((firm_blk _ _ _).star ((firm_blk _ _ _).star firm_nought)))
def Rp (w z:World)(sb:List Value)(gA gB gC:Nat)(A B:Nat→ByteArray)(C:Nat→Bool):Prop:=Hold w.heap.size w z (rpA w sb gA gB gC A B C)
def Rq (w z:World)(sb:List Value)(gA gB gC:Nat)(A B:Nat→ByteArray)(C:Nat→Bool)(nv cv:Value)(d s:Nat)(x:Nat→ByteArray):Prop:=Hold w.heap.size w z (star (rowK 9 1 cv d (strs d x)) (star (rowK 3 1 nv d (nr .i64 d (nd d s))) (rpA w sb gA gB gC A B C)))
def Rw (w z:World)(sb:List Value)(gA gB gC:Nat)(A B:Nat→ByteArray)(C:Nat→Bool)(v:Value)(m:Nat)(q:List Wr):Prop:=Hold w.heap.size w z (star (rowK 130 2 v m (pairs q)) (rpA w sb gA gB gC A B C))
section
variable {w z z':World}{sb:List Value}{gA gB gC:Nat}{A B:Nat→ByteArray}{C:Nat→Bool}{nv cv v:Value}{d s m:Nat}{x:Nat→ByteArray}{q:List Wr}
theorem Rp.below (h:Rp w z sb gA gB gC A B C)(hb:Below z.heap.size z z'):Rp w z' sb gA gB gC A B C:=Hold.below h (firm_rpA _ _ _ _ _ _ _ _) hb
theorem Rq.below (h:Rq w z sb gA gB gC A B C nv cv d s x)(hb:Below z.heap.size z z'):Rq w z' sb gA gB gC A B C nv cv d s x:=Hold.below h ((firm_rowK _ _ _ _ _).star ((firm_rowK _ _ _ _ _).star (firm_rpA _ _ _ _ _ _ _ _))) hb
theorem Rw.below (h:Rw w z sb gA gB gC A B C v m q)(hb:Below z.heap.size z z'):Rw w z' sb gA gB gC A B C v m q:=Hold.below h ((firm_rowK _ _ _ _ _).star (firm_rpA _ _ _ _ _ _ _ _)) hb
theorem Rp.low (h:Rp w z sb gA gB gC A B C):Below w.heap.size w z:=Hold.low h
theorem Rq.low (h:Rq w z sb gA gB gC A B C nv cv d s x):Below w.heap.size w z:=Hold.low h
theorem Rw.low (h:Rw w z sb gA gB gC A B C v m q):Below w.heap.size w z:=Hold.low h
theorem Rp.blkA (h:Rp w z sb gA gB gC A B C):Blk z gA 143 (strs 16 A):=Hold.blk h
theorem Rp.blkB (h:Rp w z sb gA gB gC A B C):Blk z gB 143 (strs 16 B):=Hold.blk (Hold.right h)
theorem Rp.blkC (h:Rp w z sb gA gB gC A B C):Blk z gC 189 (bls C):=Hold.blk (Hold.right (Hold.right h))
theorem Rp.box (h:Rp w z sb gA gB gC A B C):Blk z w.heap.size 44 sb:=Hold.blk (Hold.right (Hold.right (Hold.right h)))
theorem Rq.rp (h:Rq w z sb gA gB gC A B C nv cv d s x):Rp w z sb gA gB gC A B C:=Hold.right (Hold.right h)
theorem Rw.rp (h:Rw w z sb gA gB gC A B C v m q):Rp w z sb gA gB gC A B C:=Hold.right h
theorem Rq.crow (h:Rq w z sb gA gB gC A B C nv cv d s x):z.ownsRow 0 9 1 cv d (strs d x):=Hold.rowK h
theorem Rq.nrow (h:Rq w z sb gA gB gC A B C nv cv d s x):z.ownsRow 0 3 1 nv d (nr .i64 d (nd d s)):=Hold.rowK (Hold.right h)
theorem Rp.start {z:World}(h:Hold w.heap.size w z (star (Go.Proofs.YtnhkkhiajiiahaaGreatDoor.blkA w.heap.size 44 sb) nought)):Rp w (((z.alloc (.cells (strs 16 fun _=>noB).toArray 143)).alloc (.cells (strs 16 fun _=>noB).toArray 143)).alloc (.cells (bls fun _=>false).toArray 189)) sb z.heap.size (z.heap.size+1) (z.heap.size+2) (fun _=>noB) (fun _=>noB) (fun _=>false):=by
 have h1:=h.newBlk ((firm_blk _ _ _).star firm_nought) 143 (strs 16 fun _=>noB).toArray
 have h2:=h1.newBlk ((firm_blk _ _ _).star ((firm_blk _ _ _).star firm_nought)) 143 (strs 16 fun _=>noB).toArray
 have h3:=h2.newBlk ((firm_blk _ _ _).star ((firm_blk _ _ _).star ((firm_blk _ _ _).star firm_nought))) 189 (bls fun _=>false).toArray
 have e1:(z.alloc (.cells (strs 16 fun _=>noB).toArray 143)).heap.size=z.heap.size+1:=by simp
 have e2:((z.alloc (.cells (strs 16 fun _=>noB).toArray 143)).alloc (.cells (strs 16 fun _=>noB).toArray 143)).heap.size=z.heap.size+2:=by simp
 rw[e1,e2]at h3
 exact((Hold.pull3 h3).monoR fun F h=>star_swap h)
theorem Rq.start (h:Rp w z sb gA gB gC A B C){z1:World}(h1:Below z.heap.size z z1)(hc:z1.ownsRow z.heap.size 9 1 cv d (strs d x)){z2:World}(h2:Below z1.heap.size z1 z2)(hn:z2.ownsRow z1.heap.size 3 1 nv d (nr .i64 d (nd d s))):Rq w z2 sb gA gB gC A B C nv cv d s x:=by
 have a1:=Hold.newRow (firm_rpA _ _ _ _ _ _ _ _) h h1 hc
 have a2:=Hold.newRow ((firm_rowK _ _ _ _ _).star (firm_rpA _ _ _ _ _ _ _ _)) a1 h2 hn
 exact a2.swap
theorem Rq.setA (h:Rq w z sb gA gB gC A B C nv cv d s x)(k:Nat)(t:ByteArray):Rq w (z.setCell ⟨gA,k,none⟩ (.string t)) sb gA gB gC (upd A (k,t)) B C nv cv d s x:=by
 have h4:=Hold.setBlk ((firm_rowK _ _ _ _ _).star ((firm_rowK _ _ _ _ _).star ((firm_blk _ _ _).star ((firm_blk _ _ _).star ((firm_blk _ _ _).star firm_nought))))) (Hold.pull3 h) k (.string t)
 rw[strs_set]at h4
 exact Hold.back3 h4
theorem Rp.setB (h:Rp w z sb gA gB gC A B C)(k:Nat)(t:ByteArray):Rp w (z.setCell ⟨gB,k,none⟩ (.string t)) sb gA gB gC A (upd B (k,t)) C:=by
 have h4:=Hold.setBlk ((firm_blk _ _ _).star ((firm_blk _ _ _).star ((firm_blk _ _ _).star firm_nought))) (Hold.swap h) k (.string t)
 rw[strs_set]at h4
 exact Hold.swap h4
theorem Rp.setC (h:Rp w z sb gA gB gC A B C)(k:Nat):Rp w (z.setCell ⟨gC,k,none⟩ (.bool true)) sb gA gB gC A B (upB C k):=by
 have h4:=Hold.setBlk ((firm_blk _ _ _).star ((firm_blk _ _ _).star ((firm_blk _ _ _).star firm_nought))) (Hold.pull3 h) k (.bool true)
 rw[bls_set]at h4
 exact Hold.back3 h4
theorem Rw.start (h:Rp w z sb gA gB gC A B C):Rw w z sb gA gB gC A B C (.slice none 0 0) 0 []:=Hold.mono h fun F h=>star_nil17 h
theorem Rw.push (h:Rw w z sb gA gB gC A B C v m q)(hm:m≤1000)(p:Wr):∃a c z',(Builtin.append_ #[71,71] 71 #[v,.slice (some ⟨z.heap.size,0,none⟩) 1 1]).run Tryz.prog (z.alloc (.cells #[.int .i64 (p.1:Int),.string p.2] 130))=.ok (.slice a (m+1) c) z'∧Rw w z' sb gA gB gC A B C (.slice a (m+1) c) (m+1) (q++[p]):=
 push_rwr (firm_rpA _ _ _ _ _ _ _ _) h hm p
end
theorem slL_some {o m:Nat}{f:Nat→Option ByteArray}{p:ByteArray}(h:f m=some p):slL o f (m+1)=slL o f m++[(o+m,p)]:=by show slL o f m++_=_;rw[h]
theorem slL_none {o m:Nat}{f:Nat→Option ByteArray}(h:f m=none):slL o f (m+1)=slL o f m:=by show slL o f m++_=_;rw[h];exact List.append_nil _
theorem slL_most (o:Nat)(f:Nat→Option ByteArray):∀m,(slL o f m).length≤m
 |0=>Nat.le_refl _
 |m+1=>by
  have:=slL_most o f m
  cases h:f m with
  |none=>rw[slL_none h];omega
  |some p=>rw[slL_some h,List.length_append];simp;omega
end Go.Proofs.YtnhkkhiajiiahaaGreatDoor
