import Derived.Test.YtnhkkhiajiiahaaGreatDoorSlPy1
import Derived.Test.YtnhkkhiajiiahaaGreatDoorSlKpM
namespace Go.Proofs.YtnhkkhiajiiahaaGreatDoor
open Go.RowKit Go.PlainAid
set_option linter.unusedVariables false
set_option maxRecDepth 20000
section
variable {B:Nat}{w0 z z':World}{gx g gr:Nat}{b b':Bs}{i n:Int}{key top:ByteArray}{R:Asn}
theorem Bth.cut (hR:Firm R)(h:Bth B w0 z gx g gr 2 b b' i n key top R)(a:Int)(ha:a≤9223372036854775807):
 Calls Tryz.prog 32 #[.pointer (some ⟨g,0,none⟩),.int .i64 a] z fun e w'=>e=.returned (.tuple #[])∧Bth B w0 w' gx g gr 2 (cuB b a) b' i n key top R:=
 (bcut_any ((firm_blk _ _ _).star ((firm_rbk _ _ _ _ _).star hR)) (Hold.swap h) a ha).mono fun e w' ⟨h1,h2⟩=>⟨h1,Hold.swap h2⟩
theorem Bth.rcut (hR:Firm R)(h:Bth B w0 z gx g gr 2 b b' i n key top R)(a:Int)(ha:a≤9223372036854775807):
 Calls Tryz.prog 33 #[.pointer (some ⟨gr,0,none⟩),.int .i64 a] z fun e w'=>e=.returned (.tuple #[])∧Bth B w0 w' gx g gr 2 b (cuB b' a) i n key top R:=
 (rcut_any ((firm_blk _ _ _).star ((firm_bnk _ _ _ _ _).star hR)) (Hold.pull3 h) a ha).mono fun e w' ⟨h1,h2⟩=>⟨h1,Hold.back3 h2⟩
theorem kept_none (L:Nat→Bl)(i:Nat):keptK 0 L i=fun _=>false:=if_neg (by omega)
theorem Bth.crash (hR:Firm R)(h:Bth B w0 z gx g gr 2 b b' i n key top R)(hq:∀j,j<2→(b.D j).q.length≤1000000):
 Calls Tryz.prog 34 #[.pointer (some ⟨g,0,none⟩),.slice none 0 0] z fun e w'=>e=.returned (.tuple #[])∧Bth B w0 w' gx g gr 2 (crB17 b) b' i n key top R:=by
 have h1:Hold B w0 z (star (bkA g 2 b) (star (rowA 140 (.slice none 0 0) 0 (blV 0 (fun _=>⟨none,0,0,fun _=>false⟩))) (star (blkA gx 46 (btL g gr i n key top)) (star (rkA gr 2 b') R)))):=(Hold.swap h).monoR fun F h=>star_nil17 (T:=140) (K:=1) h
 refine(bcrash_any ((firm_blk _ _ _).star ((firm_rbk _ _ _ _ _).star hR)) h1 (fun i hi=>by omega) (by omega) hq).mono ?_
 rintro e w' ⟨rfl,h2⟩
 refine⟨rfl,?_⟩
 have h3:=Hold.swap h2.rid
 simp only[kept_none]at h3
 exact h3
theorem Bth.rcrash (hR:Firm R)(h:Bth B w0 z gx g gr 2 b b' i n key top R)(hq:∀j,j<2→(b'.D j).q.length≤1000000):
 Calls Tryz.prog 35 #[.pointer (some ⟨gr,0,none⟩),.slice none 0 0] z fun e w'=>e=.returned (.tuple #[])∧Bth B w0 w' gx g gr 2 b (crB17 b') i n key top R:=by
 have h1:Hold B w0 z (star (rkA gr 2 b') (star (rowA 140 (.slice none 0 0) 0 (blV 0 (fun _=>⟨none,0,0,fun _=>false⟩))) (star (blkA gx 46 (btL g gr i n key top)) (star (bkA g 2 b) R)))):=(Hold.pull3 h).monoR fun F h=>star_nil17 (T:=140) (K:=1) h
 refine(rcrash_any ((firm_blk _ _ _).star ((firm_bnk _ _ _ _ _).star hR)) h1 (fun i hi=>by omega) (by omega) hq).mono ?_
 rintro e w' ⟨rfl,h2⟩
 refine⟨rfl,?_⟩
 have h3:=Hold.back3 h2.rid
 simp only[kept_none]at h3
 exact h3
end
def prZ (q:List (Int×ByteArray)):List Value:=q.flatMap fun p=>[.int .i64 p.1,.string p.2]
theorem prZ_append (a b:List (Int×ByteArray)):prZ (a++b)=prZ a++prZ b:=by simp[prZ]
theorem prZ_at (q:List (Int×ByteArray)):∀i p,q[i]?=some p→(prZ q)[i*2]?=some (.int .i64 p.1)∧(prZ q)[i*2+1]?=some (.string p.2):=by
 induction q with
 |nil=>intro i p h;cases h
 |cons x r ih=>
  intro i p h
  cases i with
  |zero=>cases h;exact⟨rfl,rfl⟩
  |succ k=>
   have h1:r[k]?=some p:=h
   obtain⟨h2,h3⟩:=ih k p h1
   have e:∀j,(prZ (x::r))[j+2]?=(prZ r)[j]?:=fun j=>rfl
   exact⟨by rw[show(k+1)*2=k*2+2 by omega,e];exact h2,by rw[show(k+1)*2+1=(k*2+1)+2 by omega,e];exact h3⟩
theorem Cg.ofZ {w:World}{T:TypeId}{b:Nat}{a:Option Addr}{c:Nat}{q:List (Int×ByteArray)}(h:w.ownsRow b T 2 (.slice a q.length c) q.length (prZ q)):Cg w T a q:=by
 rcases h.2 with⟨e,h0⟩|⟨gk,cap,cur,e,_⟩
 ·left;exact List.eq_nil_of_length_eq_zero h0
 cases e
 cases q with
 |nil=>exact .inl rfl
 |cons x r=>
  have hat:∀i p,(x::r)[i]?=some p→w.rangeAt gk (i*2) [.int .i64 p.1,.string p.2]:=fun i p hp=>by
   have hi:i<(x::r).length:=by
    rcases Nat.lt_or_ge i (x::r).length with h|h
    ·exact h
    rw[List.getElem?_eq_none h]at hp;cases hp
   obtain⟨e0,e1⟩:=prZ_at _ i p hp
   intro j v hv
   match j,hv with
   |0,hv=>cases hv;rw[Nat.add_zero,World.ownsRow.cellAt h (i*2) (by omega)];exact e0
   |1,hv=>cases hv;rw[World.ownsRow.cellAt h (i*2+1) (by omega)];exact e1
   |j+2,hv=>simp at hv
  refine .inr ⟨gk,0,rfl,cell_blk_lt (hat 0 x rfl 0 _ rfl),fun i p hp=>?_⟩
  rw[Nat.zero_add]
  exact hat i p hp
theorem Tryz.inforChg17:(Tryz.prog.info? 77).map (fun i=>(i.zero,i.size,i.bytes))=some (some (.agg #[.int .i64 0,.string noB]),2,24):=by kernel_rfl
theorem push_z {B:Nat}{w0 w:World}{R:Asn}{v:Value}{m:Nat}{q:List (Int×ByteArray)}(hR:Firm R)(h:Hold B w0 w (star (rowK 49 2 v m (prZ q)) R))(hm:m≤1000)(p:Int×ByteArray):
 ∃a c w',(Builtin.append_ #[36,36] 36 #[v,.slice (some ⟨w.heap.size,0,none⟩) 1 1]).run Tryz.prog (w.alloc (.cells #[.int .i64 p.1,.string p.2] 49))=.ok (.slice a (m+1) c) w'∧Hold B w0 w' (star (rowK 49 2 (.slice a (m+1) c) (m+1) (prZ (q++[p]))) R):=by
 obtain⟨a,c,w',h1,h2⟩:=push_one hR 36 49 36 _ 2 24 Tryz.underlying36 Tryz.infoChg17 rfl (by decide) (by decide) h hm [.int .i64 p.1,.string p.2] rfl (fun u hu=>by
  simp only[List.mem_cons,List.not_mem_nil,or_false]at hu
  rcases hu with rfl|rfl<;>rfl)
 refine⟨a,c,w',h1,?_⟩
 rw[prZ_append];exact h2
theorem push_rz {B:Nat}{w0 w:World}{R:Asn}{v:Value}{m:Nat}{q:List (Int×ByteArray)}(hR:Firm R)(h:Hold B w0 w (star (rowK 77 2 v m (prZ q)) R))(hm:m≤1000)(p:Int×ByteArray):
 ∃a c w',(Builtin.append_ #[76,76] 76 #[v,.slice (some ⟨w.heap.size,0,none⟩) 1 1]).run Tryz.prog (w.alloc (.cells #[.int .i64 p.1,.string p.2] 77))=.ok (.slice a (m+1) c) w'∧Hold B w0 w' (star (rowK 77 2 (.slice a (m+1) c) (m+1) (prZ (q++[p]))) R):=by
 obtain⟨a,c,w',h1,h2⟩:=push_one hR 76 77 76 _ 2 24 Tryz.underlying76 Tryz.inforChg17 rfl (by decide) (by decide) h hm [.int .i64 p.1,.string p.2] rfl (fun u hu=>by
  simp only[List.mem_cons,List.not_mem_nil,or_false]at hu
  rcases hu with rfl|rfl<;>rfl)
 refine⟨a,c,w',h1,?_⟩
 rw[prZ_append];exact h2
end Go.Proofs.YtnhkkhiajiiahaaGreatDoor
