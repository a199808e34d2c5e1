import Derived.Test.YtnhkkhiajiiahaaGreatDoorSlRPrep0
import Derived.BigQuiet
namespace Go.Proofs.YtnhkkhiajiiahaaGreatDoor
open Go.RowKit Go.PlainAid
set_option linter.unusedVariables false
set_option maxRecDepth 20000
set_option maxHeartbeats 1000000 in
theorem r17prep_form {w:World}{pv:Value}{i n:Int}{key:ByteArray}(hg:RGoodIs w (slV pv i n key) false)(top:ByteArray)(v:Value):Calls Tryz.prog 68 #[slV pv i n key,.string top,v] w fun e w'=>e=.returned (.tuple #[.slice none 0 0,.string noB,.int .i64 4])∧Below w.heap.size w w':=by
 have hb:Hid (Below w.heap.size w (w.alloc (.cells #[pv,.int .i64 i,.int .i64 n,.string key] 44))):=(Below.refl _ _).alloc (Nat.le_refl _) _
 have hB:Hid (Blk _ _ _ _):=Blk.box w 44 [pv,.int .i64 i,.int .i64 n,.string key]
 have hc:Hid (Calls _ _ _ _ _):=hg _ hb.out
 have hz:Hid ((Tryz.prog.info? 44).map (·.size)=some 4):=Tryz.size44
 have H0:=(hold_nought w.heap.size w w (Nat.le_refl _) (Below.refl _ _)).newBlk firm_nought 44 #[pv,.int .i64 i,.int .i64 n,.string key]
 go_enter Tryz.func68,Tryz.ntmps68
 go_wp2_with(first
  |(refine wpList_load_blk rfl 44 _ rfl w.heap.size rfl 44 [pv,.int .i64 i,.int .i64 n,.string key] _ hB.out Tryz.underlying44 rfl hz.out ?_)
  |(go_at_call 63;refine hc.out.mono ?_;rintro e w1 ⟨rfl,hw⟩;have H1:Hid (Hold w.heap.size w w1 (star (blkA w.heap.size 44 [pv,.int .i64 i,.int .i64 n,.string key]) nought)):=H0.below ((firm_blk _ _ _).star firm_nought) hw;clear hw hc))
 go_ret3
 exact⟨rfl,H1.out.low⟩
set_option maxHeartbeats 1000000 in
theorem r17prep_err {w:World}{pv:Value}{i n:Int}{key:ByteArray}(hg:RGoodIs w (slV pv i n key) true)(top:ByteArray){a:Option Addr}{c:Nat}{l:List (Int×ByteArray)}(hl:Cg w 77 a l)(hm:l.length≤1000)(hrf:rfE n l≠0):
 Calls Tryz.prog 68 #[slV pv i n key,.string top,.slice a l.length c] w fun e w'=>e=.returned (.tuple #[.slice none 0 0,.string noB,.int .i64 (rfE n l)])∧Below w.heap.size w w':=by
 have hb:Hid (Below w.heap.size w (w.alloc (.cells #[pv,.int .i64 i,.int .i64 n,.string key] 44))):=(Below.refl _ _).alloc (Nat.le_refl _) _
 have hB:Hid (Blk _ _ _ _):=Blk.box w 44 [pv,.int .i64 i,.int .i64 n,.string key]
 have hc:Hid (Calls _ _ _ _ _):=hg _ hb.out
 have hz:Hid ((Tryz.prog.info? 44).map (·.size)=some 4):=Tryz.size44
 have H0:=(hold_nought w.heap.size w w (Nat.le_refl _) (Below.refl _ _)).newBlk firm_nought 44 #[pv,.int .i64 i,.int .i64 n,.string key]
 have HC:Hid (Cg w 77 a l):=hl
 have Hq:Hid (∀(k:Nat) q,l[k]?=some q→l.drop k=q::l.drop (k+1)):=fun k q hk=>by
  obtain⟨h1,h2⟩:=List.getElem?_eq_some_iff.1 hk
  rw[List.drop_eq_getElem_cons h1,h2]
 obtain⟨X,hX⟩:∃X,rfE n l=X:=⟨_,rfl⟩
 have HAP:Hid (rfE n l=X):=hX
 have HNE:Hid (X≠0):=by rw[←hX];exact hrf
 rw[hX]
 generalize hql:l.length=m at*
 have HQL:Hid (l.length=m):=hql
 clear hX hl hg hql hrf
 go_enter Tryz.func68,Tryz.ntmps68
 go_wp2_with(first
  |(refine wpList_load_blk rfl 44 _ rfl w.heap.size rfl 44 [pv,.int .i64 i,.int .i64 n,.string key] _ hB.out Tryz.underlying44 rfl hz.out ?_)
  |(go_at_call 63;refine hc.out.mono ?_;rintro e w1 ⟨rfl,hw⟩;have H1:Hid (Hold w.heap.size w w1 (star (blkA w.heap.size 44 [pv,.int .i64 i,.int .i64 n,.string key]) nought)):=H0.below ((firm_blk _ _ _).star firm_nought) hw;clear hw hc))
 go_loopw[10] (fun j wr=>∃k:Nat,k≤m∧j=.int .i64 (k:Int)∧Hid (rfE n (l.drop k)=X)∧Hid (Hold w.heap.size w wr (star (blkA w.heap.size 44 [pv,.int .i64 i,.int .i64 n,.string key]) nought))) (fun j _=>m-(intOf j).toNat)
 case atStart=>exact⟨0,Nat.zero_le _,rfl,HAP.out,H1.out⟩
 case round=>
  clear H1 H0 hB hb HAP
  obtain⟨k,hk,rfl,hap,hh⟩:=hrel
  by_cases hlt:k<m
  ·have hk':(k:Int)<(m:Int):=by omega
   obtain⟨q,hp⟩:∃q,l[k]?=some q:=⟨_,List.getElem?_eq_getElem (by have:=HQL.out;omega)⟩
   obtain⟨bq,oq,hgq,hrg⟩:=HC.out.at hh.out.low hp
   subst hgq
   have hcons:=Hq.out k q hp
   obtain⟨q1,t⟩:=q
   have d0:wr.cell? ⟨bq,oq+k*2,none⟩=some (.int .i64 q1):=hrg 0 _ rfl
   have d1:wr.cell? ⟨bq,oq+k*2+1,none⟩=some (.string t):=hrg 1 _ rfl
   have d2:=hh.out.blk.cell (i:=2) rfl
   clear hrg
   have hap1:=hap.out
   rw[hcons]at hap1
   by_cases hE1:q1<0
   ·have HX:Hid (X=2):=by
     show _=_
     rw[←hap1];show(if slE17 n q1=0 then _ else slE17 n q1)=_
     rw[show slE17 n q1=2 from if_pos (.inl hE1)];rfl
    have hE1d:decide (q1<0)=true:=decide_eq_true hE1
    clear hap hap1 hcons
    go_wp2_with fail
    go_quiet(fail)
    go_wp2
    go_ret3
    exact⟨by rw[HX.out];rfl,below_drewN hh.out.low _⟩
   have hE1d:decide (q1<0)=false:=decide_eq_false hE1
   by_cases hE2:n≤q1
   ·have HX:Hid (X=2):=by
     show _=_
     rw[←hap1];show(if slE17 n q1=0 then _ else slE17 n q1)=_
     rw[show slE17 n q1=2 from if_pos (.inr hE2)];rfl
    have hE2d:decide (n≤q1)=true:=decide_eq_true hE2
    clear hap hap1 hcons
    go_wp2_with fail
    go_quiet(fail)
    go_wp2
    go_ret3
    exact⟨by rw[HX.out];rfl,below_drewN hh.out.low _⟩
   have hE2d:decide (n≤q1)=false:=decide_eq_false hE2
   have hs0:slE17 n q1=0:=if_neg (by omega)
   by_cases hE3:2032<t.size
   ·have HX:Hid (X=5):=by
     show _=_
     rw[←hap1];show(if slE17 n q1=0 then(if 2032<t.size then 5 else rfE n _)else slE17 n q1)=_
     rw[if_pos hs0,if_pos hE3]
    have hE3':(2032:Int)<(t.size:Int):=by omega
    clear hap hap1 hcons hs0
    go_wp2_with fail
    go_quiet(fail)
    go_wp2
    go_ret3
    exact⟨by rw[HX.out];rfl,below_drewN hh.out.low _⟩
   have HAP2:Hid (rfE n (l.drop (k+1))=X):=by
    show _=_
    rw[←hap1];show _=(if slE17 n q1=0 then(if 2032<t.size then 5 else rfE n _)else slE17 n q1)
    rw[if_pos hs0,if_neg hE3]
   have hE3':¬(2032:Int)<(t.size:Int):=by omega
   have hE3d:decide ((2032:Int)<(t.size:Int))=false:=decide_eq_false hE3'
   clear hap hap1 hcons hs0
   go_wp2_with fail
   go_quiet(fail)
   go_wp2
   go_roundw
   case rel=>exact⟨k+1,by omega,by go_num,HAP2.out,Hold.below hh.out ((firm_blk _ _ _).star firm_nought) (below_drewN (Below.refl _ _) _)⟩
   case measure=>simp[intOf];omega
  obtain rfl:k=m:=by omega
  have hk':¬(k:Int)<(k:Int):=by omega
  have h0:=hap.out
  rw[List.drop_eq_nil_of_le (by have:=HQL.out;omega)]at h0
  exact absurd h0.symm HNE.out
set_option maxHeartbeats 4000000 in
theorem r17prep_any {w:World}{g N:Nat}{D:Nat→Dk}{sn:Nat}{p:Option Nat}(hRk:Rk w g N D sn p)(hQ:∀j,j<N→(D j).q.length≤1000000)(ht:RTabs w){i:Nat}(hi:i<N)(hdn:140≤(D i).n){d n:Nat}(hn:2^d=n)(hd:1≤d∧d≤4){key:ByteArray}(hg:RGoodIs w (slV (.pointer (some ⟨g,0,none⟩)) (i:Int) (n:Int) key) true)(top:ByteArray){a:Option Addr}{c:Nat}{l:List (Int×ByteArray)}(hl:Cg w 77 a l)(hm:l.length≤100)(hrf:rfE (n:Int) l=0):
 Calls Tryz.prog 68 #[slV (.pointer (some ⟨g,0,none⟩)) (i:Int) (n:Int) key,.string top,.slice a l.length c] w fun e w'=>((prR (rdS p (D i)) (eR p (D i)) d (sl0 top) l).1≠0→e=.returned (.tuple #[.slice none 0 0,.string noB,.int .i64 (prR (rdS p (D i)) (eR p (D i)) d (sl0 top) l).1]))∧
  ((prR (rdS p (D i)) (eR p (D i)) d (sl0 top) l).1=0→∃v,e=.returned (.tuple #[v,.string (prR (rdS p (D i)) (eR p (D i)) d (sl0 top) l).2.top,.int .i64 0])∧w'.ownsRow w.heap.size 130 2 v (slW (prR (rdS p (D i)) (eR p (D i)) d (sl0 top) l).2).length (pairs (slW (prR (rdS p (D i)) (eR p (D i)) d (sl0 top) l).2)))∧Below w.heap.size w w':=by
 have h16:n≤16:=by rw[←hn];exact pow_le16 d hd.2
 have HIN:Hid (∀(k:Nat) q,l[k]?=some q→∃s:Nat,q.1=(s:Int)∧s<n∧q.2.size≤2032):=fun k q hk=>by
  obtain⟨⟨h1,h2⟩,h3⟩:=rfE_all hrf q (List.mem_of_getElem? hk)
  exact⟨q.1.toNat,by omega,by omega,h3⟩
 have HOV:Hid (∀z (S:Sl) s,Below w.heap.size w z→Full S.ch→s<n→Calls Tryz.prog 71 #[slV (.pointer (some ⟨g,0,none⟩)) (i:Int) (n:Int) key,.string S.top,.int .i64 (s:Int),.agg (strs 16 (cfT S.ch)).toArray] z fun e w'=>∃v lf,e=.returned (.tuple #[v,.string lf,.int .i64 (ovE (rdS p (D i)) (eR p (D i)) S d s)])∧
  (ovE (rdS p (D i)) (eR p (D i)) S d s=0→fol d s (slk (rdS p (D i)) S d s) S.top d=some lf∧w'.ownsRow z.heap.size 9 1 v d (strs d (slk (rdS p (D i)) S d s)))∧Below z.heap.size z w'):=fun z S s hz hS hs=>rover_any (hRk.below hz) hQ (ht.below hz ht.lt) hi hdn hn hd key S hS hs
 have HLF:Hid (∀z t,Below w.heap.size w z→t.size≤2032→Calls Tryz.prog 64 #[.int .u8 0,.string t] z fun e w'=>e=.returned (.string (lH t))∧Below z.heap.size z w'):=fun z t hz hs=>rleaf_any t (by omega) z (ht.below hz ht.lt)
 have HPU:Hid (∀z s a2 c2 (q:Nat→ByteArray) x,Below w.heap.size w z→s<n→Sa z a2 d q→(∀k,k<d→(q k).size=64)→x.size=32→Calls Tryz.prog 112 #[.int .i64 (s:Int),.slice a2 d c2,.string x] z fun e w'=>∃v,e=.returned (.tuple #[v,.string (cur d s q x d),.int .i64 0])∧w'.ownsRow z.heap.size 9 1 v d (strs d (neu d s q x))∧Below z.heap.size z w'):=fun z s a2 c2 q x hz hs hS hq hx=>by
  have h:=rPut_any a2 d c2 (s:Int) x q (by omega) z hS (ht.below hz ht.lt)
  have h0:uE d (s:Int) q x=0:=uE_zero ⟨hd.1,hd.2,by omega,by omega⟩ ⟨hx,hq⟩
  unfold uT uN at h
  rw[if_pos h0,h0,Int.toNat_natCast]at h
  exact h
 have HPT:Hid (∀z s,s<n→Calls Tryz.prog 113 #[.int .i64 (n:Int),.int .i64 (s:Int)] z fun e w'=>∃v,e=.returned (.tuple #[v,.int .i64 0])∧w'.ownsRow z.heap.size 3 1 v d (nr .i64 d (nd d s))∧Below z.heap.size z w'):=fun z s hs=>rPath_ok d n s hn ⟨hd.1,hd.2,by omega,by omega⟩ z
 have HND:Hid (∀s k,s<n→k<d→nd d s k<16):=fun s k hs hk=>by have:=(nd_inner d s k hk (by omega)).2;omega
 have HSP:Hid (∀s,s<n→s<2^d):=fun s hs=>by omega
 have HCA:Hid (∀(k:Nat) q,l[k]?=some q→∃bq oq,a=some ⟨bq,oq,none⟩∧∀z,Below w.heap.size w z→z.cell? ⟨bq,oq+k*2,none⟩=some (.int .i64 q.1)∧z.cell? ⟨bq,oq+k*2+1,none⟩=some (.string q.2)):=fun k q hk=>by
  rcases hl with h0|⟨bq,oq,e,hlt,hr⟩
  ·rw[h0]at hk;cases hk
  refine⟨bq,oq,e,fun z hz=>⟨?_,?_⟩⟩
  ·exact(hz.cell (p:=⟨bq,oq+k*2,none⟩) hlt).trans (hr k q hk 0 _ rfl)
  exact(hz.cell (p:=⟨bq,oq+k*2+1,none⟩) hlt).trans (hr k q hk 1 _ rfl)
 have hz3:Hid (∀f:Nat→ByteArray,(Tryz.prog.info? 143).map (·.size)=some (strs 16 f).length):=fun f=>by rw[strs_length];exact Tryz.size143
 have hz16:=zero16s
 have hz16b:=zero16b
 have hd2:d≤4:=hd.2
 generalize hrd:rdS p (D i)=rd at*
 generalize her:eR p (D i)=E at*
 obtain⟨X,hX⟩:∃X,prR rd E d (sl0 top) l=X:=⟨_,rfl⟩
 rw[hX]
 have HAP:Hid (prR rd E d (sl0 top) l=X):=hX
 have hb:Hid (Below w.heap.size w (w.alloc (.cells #[.pointer (some ⟨g,0,none⟩),.int .i64 (i:Int),.int .i64 (n:Int),.string key] 44))):=(Below.refl _ _).alloc (Nat.le_refl _) _
 have hB:Hid (Blk _ _ _ _):=Blk.box w 44 [.pointer (some ⟨g,0,none⟩),.int .i64 (i:Int),.int .i64 (n:Int),.string key]
 have hc:Hid (Calls _ _ _ _ _):=hg _ hb.out
 have hz:Hid ((Tryz.prog.info? 44).map (·.size)=some 4):=Tryz.size44
 have H0:=(hold_nought w.heap.size w w (Nat.le_refl _) (Below.refl _ _)).newBlk firm_nought 44 #[.pointer (some ⟨g,0,none⟩),.int .i64 (i:Int),.int .i64 (n:Int),.string key]
 have HC:Hid (Cg w 77 a l):=hl
 have Hq:Hid (∀(k:Nat) q,l[k]?=some q→l.drop k=q::l.drop (k+1)):=fun k q hk=>by
  obtain⟨h1,h2⟩:=List.getElem?_eq_some_iff.1 hk
  rw[List.drop_eq_getElem_cons h1,h2]
 generalize hql:l.length=m at*
 have HQL:Hid (l.length=m):=hql
 generalize hpv:Value.pointer (some ⟨g,0,none⟩)=pv at*
 clear hX hl hg hql hrd her hRk ht hi hdn hn hd hrf hpv hQ
 go_enter Tryz.func68,Tryz.ntmps68
 go_wp2_with(first
  |(refine wpList_load_blk rfl 44 _ rfl w.heap.size rfl 44 [pv,.int .i64 (i:Int),.int .i64 (n:Int),.string key] _ hB.out Tryz.underlying44 rfl hz.out ?_)
  |(go_at_call 63;refine hc.out.mono ?_;rintro e w1 ⟨rfl,hw⟩;have H1:Hid (Hold w.heap.size w w1 (star (blkA w.heap.size 44 [pv,.int .i64 (i:Int),.int .i64 (n:Int),.string key]) nought)):=H0.below ((firm_blk _ _ _).star firm_nought) hw;clear hw hc))
 go_loopw[10] (fun j wr=>∃k:Nat,k≤m∧j=.int .i64 (k:Int)∧Hid True∧Hid (Hold w.heap.size w wr (star (blkA w.heap.size 44 [pv,.int .i64 (i:Int),.int .i64 (n:Int),.string key]) nought))) (fun j _=>m-(intOf j).toNat)
 case atStart=>exact⟨0,Nat.zero_le _,rfl,trivial,H1.out⟩
 case round=>
  clear H1 H0 hB hb
  obtain⟨k,hk,rfl,hap,hh⟩:=hrel
  by_cases hlt:k<m
  ·have hk':(k:Int)<(m:Int):=by omega
   obtain⟨q,hp⟩:∃q,l[k]?=some q:=⟨_,List.getElem?_eq_getElem (by have:=HQL.out;omega)⟩
   obtain⟨bq,oq,hgq,hrg⟩:=HC.out.at hh.out.low hp
   subst hgq
   have hcons:=Hq.out k q hp
   obtain⟨q1,t⟩:=q
   have d0:wr.cell? ⟨bq,oq+k*2,none⟩=some (.int .i64 q1):=hrg 0 _ rfl
   have d1:wr.cell? ⟨bq,oq+k*2+1,none⟩=some (.string t):=hrg 1 _ rfl
   have d2:=hh.out.blk.cell (i:=2) rfl
   clear hrg
   obtain⟨s,hs1,hs2,hs3⟩:=HIN.out k (q1,t) hp
   simp only at hs1 hs3
   subst hs1
   have hE1:¬(s:Int)<0:=by omega
   have hE1d:decide ((s:Int)<0)=false:=decide_eq_false hE1
   have hE2:¬(n:Int)≤(s:Int):=by omega
   have hE2d:decide ((n:Int)≤(s:Int))=false:=decide_eq_false hE2
   have hE3':¬(2032:Int)<(t.size:Int):=by omega
   have hE3d:decide ((2032:Int)<(t.size:Int))=false:=decide_eq_false hE3'
   clear hap hcons
   go_wp2_with fail
   go_quiet(fail)
   go_wp2
   go_roundw
   case rel=>exact⟨k+1,by omega,by go_num,trivial,Hold.below hh.out ((firm_blk _ _ _).star firm_nought) (below_drewN (Below.refl _ _) _)⟩
   case measure=>simp[intOf];omega
  have hk':¬(k:Int)<(m:Int):=by omega
  have H2:Hid (Rp w (((wr.alloc (.cells (strs 16 fun _=>noB).toArray 143)).alloc (.cells (strs 16 fun _=>noB).toArray 143)).alloc (.cells (bls fun _=>false).toArray 189)) [pv,.int .i64 (i:Int),.int .i64 (n:Int),.string key] wr.heap.size (wr.heap.size+1) (wr.heap.size+2) (cfT (sl0 top).ch) (cfT (sl0 top).ce) (sset (sl0 top).ce)):=Rp.start hh.out
  clear hh hap
  go_wp2_with fail
  generalize((wr.alloc (.cells (strs 16 fun _=>noB).toArray 143)).alloc (.cells (strs 16 fun _=>noB).toArray 143)).alloc (.cells (bls fun _=>false).toArray 189)=w2 at*
  generalize wr.heap.size+2=gC at*
  generalize wr.heap.size+1=gB at*
  generalize wr.heap.size=gA at*
  clear hz16 hz16b hk hlt hk'
  go_loopw[1,14] (fun tv j wr=>∃(k:Nat) (S:Sl),k≤m∧j=.int .i64 (k:Int)∧tv=.string S.top∧Hid (Szd S)∧Hid (prR rd E d S (l.drop k)=X)∧Hid (Rp w wr [pv,.int .i64 (i:Int),.int .i64 (n:Int),.string key] gA gB gC (cfT S.ch) (cfT S.ce) (sset S.ce))) (fun _ j _=>m-(intOf j).toNat)
  case atStart=>exact⟨0,sl0 top,Nat.zero_le _,rfl,rfl,szd_none top,HAP.out,H2.out⟩
  case round=>
   clear H2 HAP
   obtain⟨k,S,hk,rfl,rfl,hsz,hap,hh⟩:=hrel
   by_cases hlt:k<m
   ·have hk':(k:Int)<(m:Int):=by omega
    obtain⟨q,hp⟩:∃q,l[k]?=some q:=⟨_,List.getElem?_eq_getElem (by have:=HQL.out;omega)⟩
    obtain⟨bq,oq,hgq,hcell⟩:=HCA.out k q hp
    subst hgq
    obtain⟨s,hs1,hs2,hs3⟩:=HIN.out k q hp
    have hap1:=hap.out
    rw[Hq.out k q hp]at hap1
    obtain⟨q1,t⟩:=q
    simp only at hs1 hs3 hcell
    subst hs1
    have hs16:s<16:=by omega
    have HLT:Hid (k<m):=hlt
    have HCE:Hid (∀z,Below w.heap.size w z→z.cell? ⟨bq,oq+k*2,none⟩=some (.int .i64 (s:Int))∧z.cell? ⟨bq,oq+k*2+1,none⟩=some (.string t)):=hcell
    have HD:Hid (Rp w wr.drew [pv,.int .i64 (i:Int),.int .i64 (n:Int),.string key] gA gB gC (cfT S.ch) (cfT S.ce) (sset S.ce)):=hh.out.below (Below.refl _ _).drew
    have HS17:Hid (∀z,Rp w z [pv,.int .i64 (i:Int),.int .i64 (n:Int),.string key] gA gB gC (cfT S.ch) (cfT S.ce) (sset S.ce)→(fun z:World=>Blk z gA 143 (strs 16 (cfT S.ch))∧z.cell? ⟨w.heap.size,0,none⟩=some pv∧z.cell? ⟨w.heap.size,1,none⟩=some (.int .i64 (i:Int))∧z.cell? ⟨w.heap.size,2,none⟩=some (.int .i64 (n:Int))∧z.cell? ⟨w.heap.size,3,none⟩=some (.string key)∧z.cell? ⟨bq,oq+k*2,none⟩=some (.int .i64 (s:Int))) z):=fun z h=>⟨h.blkA,h.box.cell (i:=0) rfl,h.box.cell (i:=1) rfl,h.box.cell (i:=2) rfl,h.box.cell (i:=3) rfl,(hcell z h.low).1⟩
    have hov:=HOV.out _ S s HD.out.low hsz.out.full hs2
    clear hcell hh hp
    by_cases hE:ovE rd E S d s=0
    ·have hap2:Hid (prR rd E d (sl1 rd S d s t) (l.drop (k+1))=X):=by
      show _=_
      rw[←hap1,prR_ok (by rw[Int.toNat_natCast];exact hE),Int.toNat_natCast]
     have hsz2:Hid (Szd (sl1 rd S d s t)):=hsz.out.step hd2 (HSP.out s hs2) hs3 hE
     rw[hE]at hov
     clear hap hap1 hE
     go_wp2_with fail
     refine wp_region_noPanic ?_
     refine wp_region_held_drew (S:=fun z:World=>Blk z gA 143 (strs 16 (cfT S.ch))∧z.cell? ⟨w.heap.size,0,none⟩=some pv∧z.cell? ⟨w.heap.size,1,none⟩=some (.int .i64 (i:Int))∧z.cell? ⟨w.heap.size,2,none⟩=some (.int .i64 (n:Int))∧z.cell? ⟨w.heap.size,3,none⟩=some (.string key)∧z.cell? ⟨bq,oq+k*2,none⟩=some (.int .i64 (s:Int))) (by kernel_rfl) (HS17.out _ HD.out) (fun hHeld=>?_)
     refine tkH 1 ?_;go_simp
     refine tkH 2 ?_;go_simp
     refine tkH 3 ?_;go_simp
     refine tkH 4 ?_;go_simp
     refine tkH 5 ?_;go_simp
     refine wpAnyH_take (i:=7) (v:=.agg (strs 16 (cfT S.ch)).toArray) rfl (by kernel_rfl) (by kernel_rfl) (by kernel_rfl) (fun _ _ _ h=>h) (yields_row rfl 143 _ rfl gA rfl 143 (strs 16 (cfT S.ch)) _ (fun _ h=>h.1) Tryz.underlying143 rfl (hz3.out _)) (by assumption) ?_
     go_simp
     refine tkH 0 ?_;go_simp
     refine tkH 6 ?_;go_simp
     refine rdH 8 fun K hK=>?_
     go_simp
     go_at_call 71
     refine hov.mono ?_
     rintro x w4 ⟨v4,lf,rfl,hrw,hb4⟩
     have L4:Hid (Rp w w4 [pv,.int .i64 (i:Int),.int .i64 (n:Int),.string key] gA gB gC (cfT S.ch) (cfT S.ce) (sset S.ce)):=HD.out.below hb4
     have HRW:Hid (fol d s (slk rd S d s) S.top d=some lf∧w4.ownsRow wr.drew.heap.size 9 1 v4 d (strs d (slk rd S d s))):=(by show _∧_;simpa using hrw)
     clear hrw hb4 hov HD
     refine hK.out _ _ (HS17.out _ L4.out) (fun hHeld=>?_)
     clear hK K
     have hsc4:=HS17.out _ L4.out
     refine tkH 9 ?_;go_simp
     refine tkH 10 ?_;go_simp
     refine tkH 11 ?_;go_simp
     refine tkH 12 ?_;go_simp
     refine tkH 13 ?_;go_simp
     refine tkH 14 ?_;go_simp
     refine tkH 15 ?_;go_simp
     refine wpAnyH_done (by kernel_rfl) ?_ _
     refine NoPanic.normal ?_
     clear hsc4
     obtain⟨a2,c2,rfl⟩:=owns_form HRW.out.2
     have hSa4:Sa w4 a2 d (slk rd S d s):=by
      obtain⟨a',c',e1,e2⟩:=Sa.owns HRW.out.2
      cases e1;exact e2
     have HSA:Hid (∀z,Below w4.heap.size w4 z→Sa z a2 d (slk rd S d s)):=fun z hz=>hSa4.below hz (Nat.le_refl _)
     have HSZ:Hid (∀k,k<d→(slk rd S d s k).size=64):=fol_sizes HRW.out.1
     clear hSa4 HRW
     have e0:=(HCE.out _ L4.out.low).1
     have e1:=(HCE.out _ L4.out.low).2
     obtain⟨x,hx⟩:∃x,neu d s (slk rd S d s) (lH t)=x:=⟨_,rfl⟩
     have HXX:Hid (neu d s (slk rd S d s) (lH t)=x):=hx
     have HCJ:Hid (chJ S.ch d s x d=slCh rd S d s t):=by rw[←hx];exact chJ_all (HSP.out s hs2)
     obtain⟨cu,hcu⟩:∃cu,cur d s (slk rd S d s) (lH t) d=cu:=⟨_,rfl⟩
     have HCU:Hid (cur d s (slk rd S d s) (lH t) d=cu):=hcu
     clear hx hcu
     go_wp2_with(first
      |(go_at_call 64;refine(HLF.out _ t L4.out.low hs3).mono ?_;rintro y w5 ⟨rfl,hb5⟩;have L5:Hid (Rp w w5 [pv,.int .i64 (i:Int),.int .i64 (n:Int),.string key] gA gB gC (cfT S.ch) (cfT S.ce) (sset S.ce)):=L4.out.below hb5;have M5:Hid (Below w4.heap.size w4 w5):=hb5;clear e0 e1 hb5;have e0:=(HCE.out _ L5.out.low).1)
      |(go_at_call 112;refine(HPU.out _ s a2 c2 _ (lH t) L5.out.low hs2 (HSA.out _ M5.out) HSZ.out (lH_size t)).mono ?_;rintro y w6 ⟨v6,rfl,hr6,hb6⟩;rw[HXX.out]at hr6;rw[HCU.out];obtain⟨a3,c3,rfl⟩:=owns_form hr6;have HR6:Hid (w6.ownsRow w5.heap.size 9 1 (.slice a3 d c3) d (strs d x)):=hr6;have M6:Hid (Below w5.heap.size w5 w6):=hb6;clear e0 hr6 hb6))
     have M7:Hid (Below w5.heap.size w5 w6.drew):=M6.out.drew
     have HR7:Hid (w6.drew.ownsRow w5.heap.size 9 1 (.slice a3 d c3) d (strs d x)):=HR6.out
     have L7:Hid (Rp w w6.drew [pv,.int .i64 (i:Int),.int .i64 (n:Int),.string key] gA gB gC (cfT S.ch) (cfT S.ce) (sset S.ce)):=L5.out.below M7.out
     have hsc7:(fun z:World=>z.cell? ⟨w.heap.size,2,none⟩=some (.int .i64 (n:Int))∧z.cell? ⟨bq,oq+k*2,none⟩=some (.int .i64 (s:Int))) w6.drew:=⟨L7.out.box.cell (i:=2) rfl,(HCE.out _ L7.out.low).1⟩
     clear HSA HSZ HXX M6 HR6 M5 L4
     refine wp_region_noPanic ?_
     refine wp_region_held_drew (S:=fun z:World=>z.cell? ⟨w.heap.size,2,none⟩=some (.int .i64 (n:Int))∧z.cell? ⟨bq,oq+k*2,none⟩=some (.int .i64 (s:Int))) (by kernel_rfl) hsc7 (fun hHeld=>?_)
     refine tkH 0 ?_;go_simp
     refine tkH 1 ?_;go_simp
     refine tkH 2 ?_;go_simp
     refine tkH 3 ?_;go_simp
     refine tkH 4 ?_;go_simp
     refine tkH 5 ?_;go_simp
     refine tkH 6 ?_;go_simp
     refine rdH 7 fun K hK=>?_
     go_simp
     go_at_call 113
     refine(HPT.out _ s hs2).mono ?_
     rintro y w8 ⟨v8,rfl,hr8,hb8⟩
     obtain⟨a4,c4,rfl⟩:=owns_form hr8
     have HQ:Hid (Rq w w8 [pv,.int .i64 (i:Int),.int .i64 (n:Int),.string key] gA gB gC (cfT S.ch) (cfT S.ce) (sset S.ce) (.slice a4 d c4) (.slice a3 d c3) d s x):=Rq.start L5.out M7.out HR7.out hb8 hr8
     clear hsc7 hb8 hr8
     refine hK.out _ _ ⟨HQ.out.rp.box.cell (i:=2) rfl,(HCE.out _ HQ.out.low).1⟩ (fun hHeld=>?_)
     clear hK K
     have hsc8:(fun z:World=>z.cell? ⟨w.heap.size,2,none⟩=some (.int .i64 (n:Int))∧z.cell? ⟨bq,oq+k*2,none⟩=some (.int .i64 (s:Int))) w8:=⟨HQ.out.rp.box.cell (i:=2) rfl,(HCE.out _ HQ.out.low).1⟩
     refine tkH 8 ?_;go_simp
     refine tkH 9 ?_;go_simp
     refine tkH 10 ?_;go_simp
     refine tkH 11 ?_;go_simp
     refine tkH 12 ?_;go_simp
     refine wpAnyH_done (by kernel_rfl) ?_ _
     refine NoPanic.normal ?_
     clear hsc8 L5 L7 M7 HR7
     go_wp2_with fail
     obtain⟨wo,hwo⟩:∃wo,wr=wo:=⟨_,rfl⟩
     subst hwo
     go_loopw[24] (fun j wy=>∃kk:Nat,kk≤d∧j=.int .i64 (kk:Int)∧Hid (Rq w wy [pv,.int .i64 (i:Int),.int .i64 (n:Int),.string key] gA gB gC (cfT (chJ S.ch d s x kk)) (cfT S.ce) (sset S.ce) (.slice a4 d c4) (.slice a3 d c3) d s x)) (fun j _=>d-(intOf j).toNat)
     case atStart=>exact⟨0,Nat.zero_le _,rfl,HQ.out⟩
     case round=>
      clear HQ
      obtain⟨kk,hkk,rfl,hq⟩:=hrel
      by_cases hlt2:kk<d
      ·have hkk':(kk:Int)<(d:Int):=by omega
       obtain⟨g1,hg1,hcn⟩:=owns_cell hq.out.nrow (nr_at .i64 d (nd d s) kk hlt2)
       subst hg1
       obtain⟨g3,hg3,hcx⟩:=owns_cell hq.out.crow (strs_at d x kk hlt2)
       subst hg3
       have hn16:=HND.out s kk hs2 hlt2
       have hq1:Hid (Rq w wr.drew [pv,.int .i64 (i:Int),.int .i64 (n:Int),.string key] gA gB gC (cfT (chJ S.ch d s x kk)) (cfT S.ce) (sset S.ce) (.slice (some ⟨g1,0,none⟩) d c4) (.slice (some ⟨g3,0,none⟩) d c3) d s x):=hq.out.below (Below.refl _ _).drew
       have b1:=hq1.out.rp.blkA.cell (strs_at 16 (cfT (chJ S.ch d s x kk)) (nd d s kk) hn16)
       have b2:=hq1.out.rp.blkA.frozen (nd d s kk)
       have h7:=hq1.out.setA (nd d s kk) (x kk)
       rw[cfT_put]at h7
       have H7:Hid (Rq w (wr.drew.setCell ⟨gA,nd d s kk,none⟩ (.string (x kk))) [pv,.int .i64 (i:Int),.int .i64 (n:Int),.string key] gA gB gC (cfT (chJ S.ch d s x (kk+1))) (cfT S.ce) (sset S.ce) (.slice (some ⟨g1,0,none⟩) d c4) (.slice (some ⟨g3,0,none⟩) d c3) d s x):=h7
       have hs7:Hid ((wr.drew.setCell ⟨gA,nd d s kk,none⟩ (.string (x kk))).cell? ⟨g1,kk,none⟩=some (.int .i64 (nd d s kk:Int))∧(wr.drew.setCell ⟨gA,nd d s kk,none⟩ (.string (x kk))).cell? ⟨g3,kk,none⟩=some (.string (x kk))):=by
        obtain⟨g',e1,e2⟩:=owns_cell h7.crow (strs_at d x kk hlt2)
        cases e1
        obtain⟨g'',e3,e4⟩:=owns_cell h7.nrow (nr_at .i64 d (nd d s) kk hlt2)
        cases e3;exact⟨e4,e2⟩
       have hs0:Hid (wr.drew.cell? ⟨g1,kk,none⟩=some (.int .i64 (nd d s kk:Int))∧wr.drew.cell? ⟨g3,kk,none⟩=some (.string (x kk))):=⟨hcn,hcx⟩
       clear h7 hq hq1 hcn hcx
       generalize x kk=xk at*
       generalize nd d s kk=nk at*
       have hnk':(nk:Int)<16:=by omega
       go_wp2_with fail
       refine wp_region_noPanic ?_
       refine wp_region_held_drew (S:=fun z:World=>z.cell? ⟨g1,kk,none⟩=some (.int .i64 (nk:Int))∧z.cell? ⟨g3,kk,none⟩=some (.string xk)) (by kernel_rfl) hs0.out (fun hHeld=>?_)
       refine tkH 0 ?_;go_simp
       refine tkH 1 ?_;go_simp
       refine tkH 2 ?_;go_simp
       refine tkH 3 ?_;go_simp
       refine tkH 4 ?_;go_simp
       refine tkH 5 ?_;go_simp
       refine tkH 6 ?_;go_simp
       refine tkH 7 ?_;go_simp
       refine tkH 8 ?_;go_simp
       refine rdH 9 fun K hK=>?_
       go_simp
       refine hK.out _ _ hs7.out (fun hHeld=>?_)
       clear hK K
       refine wpAnyH_done (by kernel_rfl) ?_ _
       refine NoPanic.normal ?_
       go_wp2
       go_roundw
       case rel=>exact⟨kk+1,by omega,by go_num,H7.out⟩
       case measure=>simp[intOf];omega
      obtain rfl:kk=d:=by omega
      have hkk':¬(kk:Int)<(kk:Int):=by omega
      have hq0:=hq.out.rp
      rw[HCJ.out]at hq0
      have HP0:Hid (Rp w wr.drew [pv,.int .i64 (i:Int),.int .i64 (n:Int),.string key] gA gB gC (cfT (sl1 rd S kk s t).ch) (cfT S.ce) (sset S.ce)):=hq0.below (Below.refl _ _).drew
      have b1:=HP0.out.blkB.cell (strs_at 16 (cfT S.ce) s hs16)
      have b2:=HP0.out.blkB.frozen s
      have h7:=HP0.out.setB s t
      rw[cfT_put]at h7
      have HP1:Hid (Rp w (wr.drew.setCell ⟨gB,s,none⟩ (.string t)) [pv,.int .i64 (i:Int),.int .i64 (n:Int),.string key] gA gB gC (cfT (sl1 rd S kk s t).ch) (cfT (sl1 rd S kk s t).ce) (sset S.ce)):=h7
      have hs7:=HCE.out _ HP1.out.low
      have hs0:=HCE.out _ HP0.out.low
      have HTOP:Hid (cu=(sl1 rd S kk s t).top):=HCU.out.symm
      have hs16':(s:Int)<16:=by omega
      clear h7 hq hq0 HP0
      go_wp2_with fail
      refine wp_region_noPanic ?_
      refine wp_region_held_drew (S:=fun z:World=>z.cell? ⟨bq,oq+k*2,none⟩=some (.int .i64 (s:Int))∧z.cell? ⟨bq,oq+k*2+1,none⟩=some (.string t)) (by kernel_rfl) hs0 (fun hHeld=>?_)
      refine tkH 0 ?_;go_simp
      refine tkH 1 ?_;go_simp
      refine tkH 2 ?_;go_simp
      refine tkH 3 ?_;go_simp
      refine tkH 4 ?_;go_simp
      refine tkH 5 ?_;go_simp
      refine tkH 6 ?_;go_simp
      refine tkH 7 ?_;go_simp
      refine tkH 8 ?_;go_simp
      refine tkH 9 ?_;go_simp
      refine tkH 10 ?_;go_simp
      refine rdH 11 fun K hK=>?_
      go_simp
      refine hK.out _ _ hs7 (fun hHeld=>?_)
      clear hK K
      refine wpAnyH_done (by kernel_rfl) ?_ _
      refine NoPanic.normal ?_
      clear b1 b2 hs0
      have HP3:Hid (Rp w (wr.setCell ⟨gB,s,none⟩ (.string t)).drew [pv,.int .i64 (i:Int),.int .i64 (n:Int),.string key] gA gB gC (cfT (sl1 rd S kk s t).ch) (cfT (sl1 rd S kk s t).ce) (sset S.ce)):=HP1.out
      have hs8:=HCE.out _ HP3.out.low
      clear HP1 hs7
      have hs7:=hs8
      clear hs8
      have b1:=HP3.out.blkC.cell (bls_at (sset S.ce) s hs16)
      have b2:=HP3.out.blkC.frozen s
      have h8:=HP3.out.setC s
      rw[sset_put S.ce s t]at h8
      have HP2:Hid (Rp w ((wr.setCell ⟨gB,s,none⟩ (.string t)).drew.setCell ⟨gC,s,none⟩ (.bool true)) [pv,.int .i64 (i:Int),.int .i64 (n:Int),.string key] gA gB gC (cfT (sl1 rd S kk s t).ch) (cfT (sl1 rd S kk s t).ce) (sset (sl1 rd S kk s t).ce)):=h8
      clear h8 HP3
      generalize(wr.setCell ⟨gB,s,none⟩ (.string t)).drew=wx at*
      have e0:=hs7.1
      clear hs7
      go_wp2
      have hltm:=HLT.out
      go_roundw
      case rel=>exact⟨k+1,sl1 rd S kk s t,by omega,by go_num,by rw[HTOP.out],hsz2.out,hap2.out,HP2.out⟩
      case measure=>simp[intOf];omega
    have HX:Hid (X=(ovE rd E S d s,S)):=by
     show _=_
     rw[←hap1,prR_bad (by rw[Int.toNat_natCast];exact hE),Int.toNat_natCast]
    have HNE:Hid (ovE rd E S d s≠0):=hE
    generalize ovE rd E S d s=OV at*
    have hE':(OV !=0)=true:=by simpa using hE
    clear hap hap1
    go_wp2_with fail
    refine wp_region_noPanic ?_
    refine wp_region_held_drew (S:=fun z:World=>Blk z gA 143 (strs 16 (cfT S.ch))∧z.cell? ⟨w.heap.size,0,none⟩=some pv∧z.cell? ⟨w.heap.size,1,none⟩=some (.int .i64 (i:Int))∧z.cell? ⟨w.heap.size,2,none⟩=some (.int .i64 (n:Int))∧z.cell? ⟨w.heap.size,3,none⟩=some (.string key)∧z.cell? ⟨bq,oq+k*2,none⟩=some (.int .i64 (s:Int))) (by kernel_rfl) (HS17.out _ HD.out) (fun hHeld=>?_)
    refine tkH 1 ?_;go_simp
    refine tkH 2 ?_;go_simp
    refine tkH 3 ?_;go_simp
    refine tkH 4 ?_;go_simp
    refine tkH 5 ?_;go_simp
    refine wpAnyH_take (i:=7) (v:=.agg (strs 16 (cfT S.ch)).toArray) rfl (by kernel_rfl) (by kernel_rfl) (by kernel_rfl) (fun _ _ _ h=>h) (yields_row rfl 143 _ rfl gA rfl 143 (strs 16 (cfT S.ch)) _ (fun _ h=>h.1) Tryz.underlying143 rfl (hz3.out _)) (by assumption) ?_
    go_simp
    refine tkH 0 ?_;go_simp
    refine tkH 6 ?_;go_simp
    refine rdH 8 fun K hK=>?_
    go_simp
    go_at_call 71
    refine hov.mono ?_
    rintro x w4 ⟨v4,lf,rfl,hrw,hb4⟩
    have L4:Hid (Rp w w4 [pv,.int .i64 (i:Int),.int .i64 (n:Int),.string key] gA gB gC (cfT S.ch) (cfT S.ce) (sset S.ce)):=HD.out.below hb4
    clear hrw hb4 hov HD
    refine hK.out _ _ (HS17.out _ L4.out) (fun hHeld=>?_)
    clear hK K
    have hsc4:=HS17.out _ L4.out
    refine tkH 9 ?_;go_simp
    refine tkH 10 ?_;go_simp
    refine tkH 11 ?_;go_simp
    refine tkH 12 ?_;go_simp
    refine tkH 13 ?_;go_simp
    refine tkH 14 ?_;go_simp
    refine tkH 15 ?_;go_simp
    refine wpAnyH_done (by kernel_rfl) ?_ _
    refine NoPanic.normal ?_
    go_wp2
    go_ret3
    exact⟨fun _=>by rw[HX.out];rfl,fun h0=>absurd (by rw[HX.out]at h0;exact h0) HNE.out,L4.out.low⟩
   obtain rfl:k=m:=by omega
   have hk':¬(k:Int)<(k:Int):=by omega
   have HX:Hid (X=(0,S)):=by
    show _=_
    rw[←hap.out,List.drop_eq_nil_of_le (by have:=HQL.out;omega)];rfl
   have HFU:Hid (Full S.ch):=hsz.out.full
   have H4:Hid (Rw w wr [pv,.int .i64 (i:Int),.int .i64 (n:Int),.string key] gA gB gC (cfT S.ch) (cfT S.ce) (sset S.ce) (.slice none 0 0) 0 (slL 100 S.ch 0)):=Rw.start hh.out
   clear hap hh hsz
   go_wp2_with fail
   go_loopw[25,26] (fun v j wz=>∃(a:Option Addr) (c f mm:Nat),f≤16∧v=.slice a mm c∧j=.int .i64 (f:Int)∧Hid (mm=(slL 100 S.ch f).length)∧Hid (Rw w wz [pv,.int .i64 (i:Int),.int .i64 (n:Int),.string key] gA gB gC (cfT S.ch) (cfT S.ce) (sset S.ce) (.slice a mm c) mm (slL 100 S.ch f))) (fun _ j _=>16-(intOf j).toNat)
   case atStart=>exact⟨none,0,0,0,Nat.zero_le _,rfl,rfl,rfl,H4.out⟩
   case round=>
    clear H4
    obtain⟨a5,c5,f,mm,hf,rfl,rfl,hmm,hq⟩:=hrel
    have hmm1:mm≤16:=by have:=hmm.out;have:=slL_most 100 S.ch f;omega
    by_cases hlt2:f<16
    ·have hf':(f:Int)<16:=by omega
     have b1:=hq.out.rp.blkA.cell (strs_at 16 (cfT S.ch) f hlt2)
     cases hSf:S.ch f with
     |none=>
      rw[show cfT S.ch f=noB from by unfold cfT;rw[hSf];rfl]at b1
      have hne:noB.toList.isEmpty=true:=by rw[empty17];rfl
      have HN:Hid (mm=(slL 100 S.ch (f+1)).length∧slL 100 S.ch f=slL 100 S.ch (f+1)):=⟨by rw[slL_none hSf];exact hmm.out,(slL_none hSf).symm⟩
      clear hSf
      go_wp2
      go_roundw
      case rel=>exact⟨a5,c5,f+1,mm,by omega,rfl,by go_num,HN.out.1,by rw[←HN.out.2];exact hq.out⟩
      case measure=>simp[intOf];omega
     |some p=>
      rw[show cfT S.ch f=p from by unfold cfT;rw[hSf];rfl]at b1
      have hne:p.toList.isEmpty=false:=noB17 (HFU.out f p hSf)
      obtain⟨a6,c6,w6,hrun,h6⟩:=hq.out.push (by omega) (100+f,p)
      have H6:Hid (Rw w w6 [pv,.int .i64 (i:Int),.int .i64 (n:Int),.string key] gA gB gC (cfT S.ch) (cfT S.ce) (sset S.ce) (.slice a6 (mm+1) c6) (mm+1) (slL 100 S.ch (f+1))):=by
       show Rw _ _ _ _ _ _ _ _ _ _ _ _
       rw[slL_some hSf];exact h6
      have HN:Hid (mm+1=(slL 100 S.ch (f+1)).length):=by rw[slL_some hSf,List.length_append,←hmm.out];rfl
      have eA:((100+f:Nat):Int)=100+(f:Int):=by omega
      have hadd:IntKind.i64.wrap (100+(f:Int))=100+(f:Int):=IntWalk.i64_in _ ⟨by omega,by omega⟩
      simp only[eA]at hrun
      clear h6 hq hSf eA
      go_wp2_with(at_builtin;refine Lib.wpList_append_run _ rfl _ _ 71 71 rfl _ _ rfl rfl _ _ hrun ?_)
      go_roundw
      case rel=>exact⟨a6,c6,f+1,mm+1,by omega,rfl,by go_num,HN.out,H6.out⟩
      case measure=>simp[intOf];omega
    have hf16:f=16:=by omega
    have hf':¬(f:Int)<16:=by omega
    have hl100:=slL_most 100 S.ch 16
    rw[hf16]at hq hmm
    clear hf16 hf hlt2
    have H5:Hid (Rw w wr [pv,.int .i64 (i:Int),.int .i64 (n:Int),.string key] gA gB gC (cfT S.ch) (cfT S.ce) (sset S.ce) (.slice a5 mm c5) mm (slL 100 S.ch 16++slL 120 S.ce 0)):=by
     show Rw _ _ _ _ _ _ _ _ _ _ _ _
     rw[show slL 120 S.ce 0=[]from rfl,List.append_nil];exact hq.out
    have HM5:Hid (mm=(slL 100 S.ch 16++slL 120 S.ce 0).length):=by show _=_;rw[show slL 120 S.ce 0=[]from rfl,List.append_nil];exact hmm.out
    clear hq hmm
    go_wp2_with fail
    go_loopw[25,27] (fun v j wz=>∃(a:Option Addr) (c f mm:Nat),f≤16∧v=.slice a mm c∧j=.int .i64 (f:Int)∧Hid (mm=(slL 100 S.ch 16++slL 120 S.ce f).length)∧Hid (Rw w wz [pv,.int .i64 (i:Int),.int .i64 (n:Int),.string key] gA gB gC (cfT S.ch) (cfT S.ce) (sset S.ce) (.slice a mm c) mm (slL 100 S.ch 16++slL 120 S.ce f))) (fun _ j _=>16-(intOf j).toNat)
    case atStart=>exact⟨a5,c5,0,mm,Nat.zero_le _,rfl,rfl,HM5.out,H5.out⟩
    case round=>
     clear H5 HM5
     obtain⟨a5,c5,f,mm,hf,rfl,rfl,hmm,hq⟩:=hrel
     have hmm1:mm≤32:=by have:=hmm.out;rw[List.length_append]at this;have:=slL_most 120 S.ce f;omega
     by_cases hlt2:f<16
     ·have hf':(f:Int)<16:=by omega
      have b1:=hq.out.rp.blkB.cell (strs_at 16 (cfT S.ce) f hlt2)
      have b3:=hq.out.rp.blkC.cell (bls_at (sset S.ce) f hlt2)
      cases hSf:S.ce f with
      |none=>
       rw[show sset S.ce f=false from by unfold sset;rw[hSf];rfl]at b3
       have HN:Hid (mm=(slL 100 S.ch 16++slL 120 S.ce (f+1)).length∧slL 120 S.ce f=slL 120 S.ce (f+1)):=⟨by rw[slL_none hSf];exact hmm.out,(slL_none hSf).symm⟩
       clear hSf
       go_wp2
       go_roundw
       case rel=>exact⟨a5,c5,f+1,mm,by omega,rfl,by go_num,HN.out.1,by rw[←HN.out.2];exact hq.out⟩
       case measure=>simp[intOf];omega
      |some p=>
       rw[show cfT S.ce f=p from by unfold cfT;rw[hSf];rfl]at b1
       rw[show sset S.ce f=true from by unfold sset;rw[hSf];rfl]at b3
       obtain⟨a6,c6,w6,hrun,h6⟩:=hq.out.push (by omega) (120+f,p)
       have H6:Hid (Rw w w6 [pv,.int .i64 (i:Int),.int .i64 (n:Int),.string key] gA gB gC (cfT S.ch) (cfT S.ce) (sset S.ce) (.slice a6 (mm+1) c6) (mm+1) (slL 100 S.ch 16++slL 120 S.ce (f+1))):=by
        show Rw _ _ _ _ _ _ _ _ _ _ _ _
        rw[slL_some hSf,←List.append_assoc];exact h6
       have HN:Hid (mm+1=(slL 100 S.ch 16++slL 120 S.ce (f+1)).length):=by rw[slL_some hSf,←List.append_assoc,List.length_append,←hmm.out];rfl
       have eA:((120+f:Nat):Int)=120+(f:Int):=by omega
       have hadd:IntKind.i64.wrap (120+(f:Int))=120+(f:Int):=IntWalk.i64_in _ ⟨by omega,by omega⟩
       simp only[eA]at hrun
       clear h6 hq hSf eA
       go_wp2_with(at_builtin;refine Lib.wpList_append_run _ rfl _ _ 71 71 rfl _ _ rfl rfl _ _ hrun ?_)
       go_roundw
       case rel=>exact⟨a6,c6,f+1,mm+1,by omega,rfl,by go_num,HN.out,H6.out⟩
       case measure=>simp[intOf];omega
     obtain rfl:f=16:=by omega
     go_wp2
     go_ret3
     refine⟨fun h0=>absurd (by rw[HX.out]) h0,fun _=>⟨_,by rw[HX.out];rfl,?_⟩,hq.out.low⟩
     have h9:=Hold.rowBack hq.out
     have hmm9:=hmm.out
     rw[HX.out]
     show wr.ownsRow w.heap.size 130 2 _ (slL 100 S.ch 16++slL 120 S.ce 16).length (pairs (slL 100 S.ch 16++slL 120 S.ce 16))
     rw[←hmm9];exact h9
end Go.Proofs.YtnhkkhiajiiahaaGreatDoor
