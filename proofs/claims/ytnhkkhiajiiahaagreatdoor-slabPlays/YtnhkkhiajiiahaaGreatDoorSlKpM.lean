import Derived.Test.YtnhkkhiajiiahaaGreatDoorSlWkM
import Derived.Test.YtnhkkhiajiiahaaGreatDoorSlArM
import Derived.Test.YtnhkkhiajiiahaaGreatDoorSlMapT
namespace Go.Proofs.YtnhkkhiajiiahaaGreatDoor
open Go.RowKit Go.PlainAid
set_option linter.unusedVariables false
set_option maxRecDepth 20000
theorem zeroAct (w:World):(zeroValue 32).run Tryz.prog w=.ok (.agg #[.int .i64 0,.int .i64 0,.int .i64 0,.int .u8 0,.slice none 0 0,.string noB]) w:=by
 obtain⟨i0,hi,hz⟩:=Option.map_eq_some_iff.1 (show(Tryz.prog.info? 32).map (fun i=>i.zero)=some (some (.agg #[.int .i64 0,.int .i64 0,.int .i64 0,.int .u8 0,.slice none 0 0,.string noB])) by kernel_rfl)
 simp[zeroValue,typeInfo,hi,hz]
def Kp (key:ByteArray)(i n:Nat)(C w:Nat→ByteArray):Prop:=∀j,j<n→opE key (plc i j) (C j)=0∧opT key (plc i j) (C j)=w j
theorem kp_begin (key:ByteArray)(i n:Nat):Kp key i n (fun _=>noB) (fun _=>zB 32):=fun j _=>op_none key (plc i j)
theorem Kp.put {key:ByteArray}{i n:Nat}{C w:Nat→ByteArray}(h:Kp key i n C w){nonce:ByteArray}(hn:nonce.size=12)(s:Nat)(t:ByteArray):Kp key i n (fun j=>if j=s then clB17 key nonce (plc i s) t else C j) (fun j=>if j=s then t else w j):=fun j hj=>by
 by_cases e:j=s
 ·subst e;simp only[if_pos];exact op_seal key nonce (plc i j) t hn
 simp only[if_neg e];exact h j hj
theorem Kp.congr {key:ByteArray}{i n:Nat}{C C' w w':Nat→ByteArray}(h:Kp key i n C w)(h1:∀j,j<n→C j=C' j)(h2:∀j,j<n→w j=w' j):Kp key i n C' w':=fun j hj=>by rw[←h1 j hj,←h2 j hj];exact h j hj
theorem upL_snoc:∀(cs:List (Int×ByteArray)) (C:Nat→ByteArray) (p:Int×ByteArray),upL C (cs++[p])=fun j=>if j=p.1.toNat then p.2 else upL C cs j
 |[],C,p=>rfl
 |x::r,C,p=>upL_snoc r _ p
def zq (q:List Wr):List (Int×ByteArray):=q.map fun p=>((p.1:Int),p.2)
theorem zq_snoc (q:List Wr)(p:Wr):zq (q++[p])=zq q++[((p.1:Int),p.2)]:=by unfold zq;rw[List.map_append];rfl
theorem up_snoc (C:Nat→ByteArray)(q:List Wr)(p:Wr):upL C (zq (q++[p]))=fun j=>if j=p.1 then p.2 else upL C (zq q) j:=by
 rw[zq_snoc,upL_snoc]
 funext j
 simp
theorem cok_nil (n:Nat):Cok n (zq []):=fun p hp=>by cases hp
theorem cok_snoc {n:Nat}{q:List Wr}(h:Cok n (zq q)){p:Wr}(h1:p.1<n)(h2:p.2.size≤2032):Cok n (zq (q++[p])):=by
 rw[zq_snoc]
 intro x hx
 rcases List.mem_append.1 hx with h3|h3
 ·exact h x h3
 rcases List.mem_cons.1 h3 with rfl|h4
 ·exact⟨⟨by show(0:Int)≤(p.1:Int);omega,by show(p.1:Int)<(n:Int);omega⟩,h2⟩
 cases h4
theorem Tryz.infoChg17:(Tryz.prog.info? 49).map (fun i=>(i.zero,i.size,i.bytes))=some (some (.agg #[.int .i64 0,.string noB]),2,24):=by kernel_rfl
theorem push_chg {B:Nat}{w0 w:World}{R:Asn}{v:Value}{m:Nat}{q:List Wr}(hR:Firm R)(h:Hold B w0 w (star (rowK 49 2 v m (pairs q)) R))(hm:m≤1000)(p:Wr):
 ∃a c w',(Builtin.append_ #[36,36] 36 #[v,.slice (some ⟨w.heap.size,0,none⟩) 1 1]).run Tryz.prog (w.alloc (.cells #[.int .i64 (p.1:Int),.string p.2] 49))=.ok (.slice a (m+1) c) w'∧Hold B w0 w' (star (rowK 49 2 (.slice a (m+1) c) (m+1) (pairs (q++[p]))) R):=by
 obtain⟨a,c,w',h1,h2⟩:=push_one hR 36 49 36 _ 2 24 Tryz.underlying36 Tryz.infoChg17 rfl (by decide) (by decide) h hm [.int .i64 (p.1:Int),.string p.2] rfl (fun u hu=>by
  simp only[List.mem_cons,List.not_mem_nil,or_false]at hu
  rcases hu with rfl|rfl<;>rfl)
 refine⟨a,c,w',h1,?_⟩
 rw[pairs_append];exact h2
def Kn (W:World)(gx g gr gw n:Nat)(key:ByteArray)(b b':Bs)(top:ByteArray)(C:Nat→ByteArray)(v:Value)(k:Nat)(z:World):Prop:=∃(w:Nat→ByteArray) (q:List Wr),q.length=k∧Bth W.heap.size W z gx g gr 2 b b' 1 (n:Int) key top (star (rowK 49 2 v k (pairs q)) (star (blkA gw 9 (strs n w)) nought))∧Kp key 1 n (upL C (zq q)) w∧Cok n (zq q)∧∀j,(w j).size=32
def Km (W:World)(gx g gr gw n:Nat)(key:ByteArray)(b b':Bs)(top:ByteArray)(C:Nat→ByteArray)(s:Nat)(t:ByteArray)(v:Value)(k:Nat)(z:World):Prop:=∃(w:Nat→ByteArray) (q:List Wr),q.length=k∧Bth W.heap.size W z gx g gr 2 b b' 1 (n:Int) key top (star (rowK 49 2 v k (pairs q)) (star (blkA gw 9 (strs n (upd w (s,t)))) nought))∧Kp key 1 n (upL C (zq q)) w∧Cok n (zq q)∧∀j,(w j).size=32
def Ko (W:World)(gx g gr gw d n:Nat)(key:ByteArray)(m:Nat)(z:World):Prop:=∃(b b':Bs) (l:Nat→ByteArray) (top:ByteArray) (C w:Nat→ByteArray),Bth W.heap.size W z gx g gr 2 b b' 1 (n:Int) key top (star (blkA gw 9 (strs n w)) nought)∧Liv 2 1 b l∧InT l d (sl0 top) C∧Kp key 1 n C w∧Few17 2 b (100+100*m)∧∀j,(w j).size=32
section
variable {W z z':World}{gx g gr gw d n k m s:Nat}{key top t:ByteArray}{b b':Bs}{l C:Nat→ByteArray}{v:Value}
theorem firm_kn (w:Nat→ByteArray)(xs:List Value):Firm (star (rowK 49 2 v k xs) (star (blkA gw 9 (strs n w)) nought)):=(firm_rowK _ _ _ _ _).star ((firm_blk _ _ _).star firm_nought)
theorem Kn.below (h:Kn W gx g gr gw n key b b' top C v k z)(hb:Below z.heap.size z z'):Kn W gx g gr gw n key b b' top C v k z':=by
 obtain⟨w,q,h1,h2,h3⟩:=h
 exact⟨w,q,h1,h2.below (firm_kn _ _) hb,h3⟩
theorem Km.below (h:Km W gx g gr gw n key b b' top C s t v k z)(hb:Below z.heap.size z z'):Km W gx g gr gw n key b b' top C s t v k z':=by
 obtain⟨w,q,h1,h2,h3⟩:=h
 exact⟨w,q,h1,h2.below (firm_kn _ _) hb,h3⟩
theorem Ko.below (h:Ko W gx g gr gw d n key m z)(hb:Below z.heap.size z z'):Ko W gx g gr gw d n key m z':=by
 obtain⟨b,b',l,top,C,w,h1,h2⟩:=h
 exact⟨b,b',l,top,C,w,h1.below ((firm_blk _ _ _).star firm_nought) hb,h2⟩
theorem Kn.low (h:Kn W gx g gr gw n key b b' top C v k z):Below W.heap.size W z:=by obtain⟨w,q,h1,h2,h3⟩:=h;exact h2.low
theorem Km.low (h:Km W gx g gr gw n key b b' top C s t v k z):Below W.heap.size W z:=by obtain⟨w,q,h1,h2,h3⟩:=h;exact h2.low
theorem Ko.low (h:Ko W gx g gr gw d n key m z):Below W.heap.size W z:=by obtain⟨b,b',l,top,C,w,h1,h2⟩:=h;exact h1.low
def Sc (gx g n:Nat)(key top:ByteArray)(z:World):Prop:=z.cell? ⟨gx,0,none⟩=some (.pointer (some ⟨g,0,none⟩))∧z.cell? ⟨gx,1,none⟩=some (.int .i64 1)∧z.cell? ⟨gx,2,none⟩=some (.int .i64 (n:Int))∧z.cell? ⟨gx,3,none⟩=some (.string key)∧z.cell? ⟨gx,8,none⟩=some (.string top)
theorem Bth.sc {R:Asn}(h:Bth W.heap.size W z gx g gr 2 b b' 1 (n:Int) key top R):Sc gx g n key top z:=⟨h.cells.1,h.cells.2.1,h.cells.2.2.1,h.cells.2.2.2.1,h.blk.cell (i:=8) rfl⟩
theorem Kn.sc (h:Kn W gx g gr gw n key b b' top C v k z):Sc gx g n key top z:=by obtain⟨w,q,h1,h2,h3⟩:=h;exact h2.sc
theorem Km.sc (h:Km W gx g gr gw n key b b' top C s t v k z):Sc gx g n key top z:=by obtain⟨w,q,h1,h2,h3⟩:=h;exact h2.sc
theorem Kn.blk (h:Kn W gx g gr gw n key b b' top C v k z):∃w,Blk z gw 9 (strs n w):=by
 obtain⟨w,q,h1,h2,h3⟩:=h
 exact⟨w,Hold.blk (Hold.right (Hold.right (Hold.right (Hold.right h2))))⟩
theorem Kn.store (h:Kn W gx g gr gw n key b b' top C v k z)(t:ByteArray)(s:Nat):Km W gx g gr gw n key b b' top C s t v k (z.setCell ⟨gw,s,none⟩ (.string t)):=by
 obtain⟨w,q,h1,h2,h3⟩:=h
 refine⟨w,q,h1,?_,h3⟩
 have h4:=Hold.setBlk (((firm_blk _ _ _).star ((firm_bnk _ _ _ _ _).star ((firm_rbk _ _ _ _ _).star ((firm_rowK _ _ _ _ _).star firm_nought))))) (Hold.pull5 h2) s (.string t)
 rw[strs_set]at h4
 exact Hold.back5 h4
theorem Km.push (h:Km W gx g gr gw n key b b' top C s t v k z)(hs:s<n)(hk:k≤100)(ht:t.size=32){nonce:ByteArray}(hno:nonce.size=12):
 ∃a c z',(Builtin.append_ #[36,36] 36 #[v,.slice (some ⟨z.heap.size,0,none⟩) 1 1]).run Tryz.prog (z.alloc (.cells #[.int .i64 (s:Int),.string (clB17 key nonce (plc 1 s) t)] 49))=.ok (.slice a (k+1) c) z'∧Kn W gx g gr gw n key b b' top C (.slice a (k+1) c) (k+1) z':=by
 obtain⟨w,q,h1,h2,h3,h4,h5⟩:=h
 obtain⟨a,c,z',e1,e2⟩:=push_chg ((firm_blk _ _ _).star ((firm_bnk _ _ _ _ _).star ((firm_rbk _ _ _ _ _).star ((firm_blk _ _ _).star firm_nought)))) (Hold.pull4 h2) (by omega) (s,clB17 key nonce (plc 1 s) t)
 have hsz:=clB17_size key nonce (plc 1 s) t hno
 refine⟨a,c,z',e1,upd w (s,t),q++[(s,clB17 key nonce (plc 1 s) t)],by rw[List.length_append,h1];rfl,Hold.back4 e2,?_,cok_snoc h4 hs (by show(clB17 key nonce (plc 1 s) t).size≤2032;omega),fun j=>?_⟩
 ·rw[up_snoc]
  exact(h3.put hno s t).congr (fun j _=>rfl) (fun j _=>rfl)
 unfold upd
 split
 ·exact ht
 exact h5 j
theorem Ko.start {w:Nat→ByteArray}(h:Bth W.heap.size W z gx g gr 2 b b' 1 (n:Int) key top (star (blkA gw 9 (strs n w)) nought))(h1:Kp key 1 n C w)(h2:∀j,(w j).size=32):Kn W gx g gr gw n key b b' top C (.slice none 0 0) 0 z:=by
 refine⟨w,[],rfl,?_,h1,cok_nil n,h2⟩
 exact Hold.monoR h fun F h=>star_monoR h fun F h=>star_monoR h fun F h=>star_nil17 h
end
def Kr (W:World)(gx g gr gw d n:Nat)(key:ByteArray)(b b':Bs)(top:ByteArray)(v:Value)(t:ByteArray)(z:World):Prop:=∃(w C l:Nat→ByteArray) (q:List Wr),Bth W.heap.size W z gx g gr 2 b b' 1 (n:Int) key top (star (rowK 104 2 v q.length (pairs q)) (star (blkA gw 9 (strs n w)) nought))∧(apR 2 1 b q).1=0∧Liv 2 1 (apR 2 1 b q).2 l∧InT l d (sl0 t) C∧Kp key 1 n C w∧q.length≤32∧∀j,(w j).size=32
def Ks (W:World)(gx g gr gw d n:Nat)(key:ByteArray)(m:Nat)(top t:ByteArray)(z:World):Prop:=∃(b b':Bs) (w C l:Nat→ByteArray),Bth W.heap.size W z gx g gr 2 b b' 1 (n:Int) key top (star (blkA gw 9 (strs n w)) nought)∧Liv 2 1 b l∧InT l d (sl0 t) C∧Kp key 1 n C w∧Few17 2 b (100+100*m)∧∀j,(w j).size=32
section
variable {W z z':World}{gx g gr gw d n k m s:Nat}{key top t:ByteArray}{b b':Bs}{l C:Nat→ByteArray}{v:Value}
theorem Kr.below (h:Kr W gx g gr gw d n key b b' top v t z)(hb:Below z.heap.size z z'):Kr W gx g gr gw d n key b b' top v t z':=by
 obtain⟨w,C,l,q,h1,h2⟩:=h
 exact⟨w,C,l,q,h1.below ((firm_rowK _ _ _ _ _).star ((firm_blk _ _ _).star firm_nought)) hb,h2⟩
theorem Kr.sc (h:Kr W gx g gr gw d n key b b' top v t z):Sc gx g n key top z:=by obtain⟨w,C,l,q,h1,h2⟩:=h;exact h1.sc
theorem Ks.sc (h:Ks W gx g gr gw d n key m top t z):Sc gx g n key top z:=by obtain⟨b,b',w,C,l,h1,h2⟩:=h;exact h1.sc
theorem Ks.blk (h:Ks W gx g gr gw d n key m top t z):Blk z gx 46 (btL g gr 1 (n:Int) key top):=by obtain⟨b,b',w,C,l,h1,h2⟩:=h;exact h1.blk
theorem Kr.apply (h:Kr W gx g gr gw d n key b b' top v t z)(hn:2^d=n)(hd:1≤d∧d≤4)(hk:key.size=32)(hf:Few17 2 b (100+100*m))(hm:m≤100):
 Calls Tryz.prog 14 #[slV (.pointer (some ⟨g,0,none⟩)) 1 (n:Int) key,v] z fun e w'=>e=.returned (.int .i64 0)∧Ks W gx g gr gw d n key (m+1) top t w':=by
 obtain⟨w,C,l,q,h1,h2,h3,h4,h5,h6,h7⟩:=h
 refine(Bth.apply (k:=1) (q2:=[]) (v2:=.bool true) ((firm_blk _ _ _).star firm_nought) rfl (good_yes (i:=1) h1.bk (by decide) hn hd hk) (by decide) h1 hf (by omega)).mono ?_
 rintro e w' ⟨e1,e2⟩
 rw[h2]at e1
 refine⟨e1,_,_,w,C,l,e2.dropR,h3,h4,h5,?_,h7⟩
 have:=few_r (i:=1) (by decide) q hf
 exact⟨by have:=this.1;omega,fun j hj=>by have:=this.2 j hj;omega⟩
theorem Ks.setTop (h:Ks W gx g gr gw d n key m top t z):Ko W gx g gr gw d n key m (z.setCell ⟨gx,8,none⟩ (.string t)):=by
 obtain⟨b,b',w,C,l,h1,h2,h3,h4,h5,h6⟩:=h
 exact⟨b,b',l,t,C,w,h1.setTop ((firm_blk _ _ _).star firm_nought) t,h2,h3,h4,h5,h6⟩
end
def flW (k:Nat):Nat→ByteArray:=fun j=>if j<k then zB 32 else noB
theorem strs_eq (n:Nat){f h:Nat→ByteArray}(e:∀j,j<n→f j=h j):strs n f=strs n h:=List.map_congr_left fun j hj=>by rw[e j (List.mem_range.1 hj)]
def Kf (W:World)(gx g gr gw n:Nat)(key:ByteArray)(b b':Bs)(top:ByteArray)(k:Nat)(z:World):Prop:=Bth W.heap.size W z gx g gr 2 b b' 1 (n:Int) key top (star (blkA gw 9 (strs n (flW k))) nought)
section
variable {W z z':World}{gx g gr gw d n k:Nat}{key top:ByteArray}{b b':Bs}{l:Nat→ByteArray}
theorem Kf.new (h:Bth W.heap.size W z gx g gr 2 b b' 1 (n:Int) key top nought):Kf W gx g gr z.heap.size n key b b' top 0 (z.alloc (.cells (strs n fun _=>noB).toArray 9)):=by
 have h1:=Hold.newBlk (bth_firm firm_nought) h 9 (strs n fun _=>noB).toArray
 rw[List.toList_toArray]at h1
 exact h1.back4
theorem Kf.below (h:Kf W gx g gr gw n key b b' top k z)(hb:Below z.heap.size z z'):Kf W gx g gr gw n key b b' top k z':=Bth.below ((firm_blk _ _ _).star firm_nought) h hb
theorem Kf.blk (h:Kf W gx g gr gw n key b b' top k z):Blk z gw 9 (strs n (flW k)):=Hold.blk (Hold.right (Hold.right (Hold.right h)))
theorem Kf.step (h:Kf W gx g gr gw n key b b' top k z):Kf W gx g gr gw n key b b' top (k+1) (z.setCell ⟨gw,k,none⟩ (.string (zB 32))):=by
 have h4:=Hold.setBlk ((firm_blk _ _ _).star ((firm_bnk _ _ _ _ _).star ((firm_rbk _ _ _ _ _).star firm_nought))) (Hold.pull4 h) k (.string (zB 32))
 rw[strs_set,show upd (flW k) (k,zB 32)=flW (k+1)from by
  funext j
  unfold upd flW
  by_cases e:j=k
  ·subst e;rw[if_pos rfl,if_pos (by omega)]
  rw[if_neg e]
  by_cases e2:j<k
  ·rw[if_pos e2,if_pos (by omega)]
  rw[if_neg e2,if_neg (by omega)]]at h4
 exact Hold.back4 h4
theorem Kf.done (h:Kf W gx g gr gw n key b b' top n z)(hL:Liv 2 1 b l)(hT:InT l d (sl0 top) (fun _=>noB))(hf:Few17 2 b 100):Ko W gx g gr gw d n key 0 z:=by
 unfold Kf at h
 rw[strs_eq n (f:=flW n) (h:=fun _=>zB 32) (fun j hj=>if_pos hj)]at h
 exact⟨b,b',l,top,fun _=>noB,fun _=>zB 32,h,hL,hT,kp_begin key 1 n,hf,fun _=>zB_size 32⟩
end
theorem zcells {n:Nat}{Z:Array Value}(hZ:∀x:World,PZ x.heap.size n (x.alloc (.cells Z 5 (0,0)))){z:World}{G:Nat}(h:Blk z G 5 Z.toList):PZ G n z:=fun i hi=>by
 have h1:=hZ z i hi
 have h2:=Blk.new z 5 Z
 generalize z.alloc (.cells Z 5 (0,0))=y at h1 h2
 generalize z.heap.size=q at h1 h2
 unfold Blk at h h2
 have e1:y.cell? ⟨q,i,none⟩=Z.toList[i]?:=by simp[World.cell?,h2]
 have e2:z.cell? ⟨G,i,none⟩=Z.toList[i]?:=by simp[World.cell?,h]
 rw[e2,←e1];exact h1
def tpB (b:Bs)(j:Nat)(at_:Int)(s:ByteArray):Bs:=⟨updD b.D j (tampD (b.D j) at_ s),b.s,b.p⟩
theorem tpB_at (b:Bs)(j:Nat)(at_:Int)(s:ByteArray):(tpB b j at_ s).D j=tampD (b.D j) at_ s:=updD_same _ _ _
def kB (k:Nat):ByteArray:=if k=0 then⟨#[0]⟩else⟨#[1]⟩
def kx (T:Nat→ByteArray)(i k:Nat):ByteArray:=kB k++T i
theorem kx_inj {T:Nat→ByteArray}{i j k:Nat}(h:kx T i k=kx T j k):T i=T j:=by
 have h1:(kx T i k).extract (kB k).size (kx T i k).size=T i:=cut_right _ _ _ _ rfl (by unfold kx;rw[ByteArray.size_append])
 have h2:(kx T j k).extract (kB k).size (kx T j k).size=T j:=cut_right _ _ _ _ rfl (by unfold kx;rw[ByteArray.size_append])
 rw[←h1,←h2,h]
def Met (T:Nat→ByteArray)(M:ByteArray→Option ByteArray)(p:Nat):Prop:=∀i k,k<2→2*i+k<p→M (digest (kx T i k))=some (kx T i k)
theorem Met.put {T:Nat→ByteArray}{M:ByteArray→Option ByteArray}{p i k:Nat}(h:Met T M p)(hk:k<2)(hp:p=2*i+k)(hM:M (digest (kx T i k))=none∨M (digest (kx T i k))=some (kx T i k)):Met T (pT M (digest (kx T i k)) (kx T i k)) (p+1):=fun i' k' hk' h'=>by
 unfold pT
 by_cases e:digest (kx T i' k')=digest (kx T i k)
 ·rw[if_pos e]
  by_cases e2:2*i'+k'<p
  ·have h1:=h i' k' hk' e2
   rw[e]at h1
   rcases hM with hM|hM
   ·rw[hM]at h1;cases h1
   rw[hM]at h1;exact h1
  obtain⟨rfl,rfl⟩:i'=i∧k'=k:=by omega
  rfl
 rw[if_neg e]
 by_cases e2:2*i'+k'<p
 ·exact h i' k' hk' e2
 obtain⟨rfl,rfl⟩:i'=i∧k'=k:=by omega
 exact absurd rfl e
theorem Met.one {T:Nat→ByteArray}{M:ByteArray→Option ByteArray}{m:Nat}(h:Met T M (2*m)){i j k:Nat}(hi:i<m)(hj:j<m)(hk:k<2)(e:digest (kx T i k)=digest (kx T j k)):T i=T j:=by
 have h1:=h i k hk (by omega)
 have h2:=h j k hk (by omega)
 rw[e,h2]at h1
 exact(kx_inj (Option.some.inj h1)).symm
end Go.Proofs.YtnhkkhiajiiahaaGreatDoor
