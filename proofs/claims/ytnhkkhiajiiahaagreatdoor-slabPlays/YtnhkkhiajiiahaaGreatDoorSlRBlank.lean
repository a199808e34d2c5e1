import Derived.Test.YtnhkkhiajiiahaaGreatDoorSlRApply
namespace Go.Proofs.YtnhkkhiajiiahaaGreatDoor
open Go.RowKit Go.PlainAid
set_option linter.unusedVariables false
set_option maxRecDepth 20000
theorem Tryz.infoRWr17:(Tryz.prog.info? 130).map (fun i=>(i.zero,i.size,i.bytes))=some (some (.agg #[.int .i64 0,.string noB]),2,24):=by kernel_rfl
theorem zeroRWr17 (w:World):(zeroValue 130).run Tryz.prog w=.ok (wrW 0 noB) w:=by
 obtain⟨i0,hi,hz0,hz1,hz2⟩:=info_parts Tryz.infoRWr17
 simp[zeroValue,typeInfo,hi,hz0]
theorem push_rwr {B:Nat}{w0 w:World}{R:Asn}{v:Value}{m:Nat}{q:List Wr}(hR:Firm R)(h:Hold B w0 w (star (rowK 130 2 v m (pairs q)) R))(hm:m≤1000)(p:Wr):
 ∃a c w',(Builtin.append_ #[71,71] 71 #[v,.slice (some ⟨w.heap.size,0,none⟩) 1 1]).run Tryz.prog (w.alloc (.cells #[.int .i64 (p.1:Int),.string p.2] 130))=.ok (.slice a (m+1) c) w'∧Hold B w0 w' (star (rowK 130 2 (.slice a (m+1) c) (m+1) (pairs (q++[p]))) R):=by
 obtain⟨a,c,w',h1,h2⟩:=push_one hR 71 130 71 _ 2 24 Tryz.underlying71 Tryz.infoRWr17 rfl (by decide) (by decide) h hm [.int .i64 (p.1:Int),.string p.2] rfl (fun u hu=>by
  simp only[List.mem_cons,List.not_mem_nil,or_false]at hu
  rcases hu with rfl|rfl<;>rfl)
 refine⟨a,c,w',h1,?_⟩
 rw[pairs_append];exact h2
theorem kind0 (s:ByteArray):digest (strOfNums [((0:Nat):Int)]++s)=lH s:=rfl
theorem rleaf_any (s:ByteArray)(hs:s.size≤100000)(w:World)(ht:RTabs w):Calls Tryz.prog 64 #[.int .u8 0,.string s] w fun e w'=>e=.returned (.string (lH s))∧Below w.heap.size w w':=by
 have h:=refKind_any 0 (by decide) s (by omega) w ht
 rw[kind0]at h
 exact h
set_option maxHeartbeats 1000000 in
theorem rblank_form {w:World}{pv:Value}{i n:Int}{key:ByteArray}(hg:RGoodIs w (slV pv i n key) false):Calls Tryz.prog 26 #[slV pv i n key] w fun e w'=>e=.returned (.tuple #[.slice none 0 0,.string noB,.int .i64 4])∧Below w.heap.size w w':=by
 have hb:Hid (Below w.heap.size w (w.alloc (.cells #[pv,.int .i64 i,.int .i64 n,.string key] 44))):=(Below.refl _ _).alloc (Nat.le_refl _) _
 have hB:Hid (Blk _ _ _ _):=Blk.box w 44 [pv,.int .i64 i,.int .i64 n,.string key]
 have hc:Hid (Calls _ _ _ _ _):=hg _ hb.out
 have hz:Hid ((Tryz.prog.info? 44).map (·.size)=some 4):=Tryz.size44
 go_enter Tryz.func26,Tryz.ntmps26
 go_wp2_with(first
  |(refine wpList_load_blk rfl 44 _ rfl w.heap.size rfl 44 [pv,.int .i64 i,.int .i64 n,.string key] _ hB.out Tryz.underlying44 rfl hz.out ?_)
  |(go_at_call 63;refine hc.out.mono ?_;rintro e w1 ⟨rfl,hw⟩;have L1:Hid (Below w.heap.size w w1):=hb.out.trans (hw.mono hb.out.size);clear hw))
 go_ret3
 exact⟨rfl,L1.out⟩
def Rl17 (w z:World)(sb:List Value)(v pv:Value)(n:Nat)(q:List Wr):Prop:=Hold w.heap.size w z (star (rowK 130 2 v q.length (pairs q)) (star (rowK 9 1 pv n (strs n (bP n eL))) (star (blkA w.heap.size 44 sb) nought)))
section
variable {w z z':World}{sb:List Value}{v pv:Value}{n:Nat}{q:List Wr}
theorem rl_firm:Firm (star (rowK 9 1 pv n (strs n (bP n eL))) (star (blkA w.heap.size 44 sb) nought)):=(firm_rowK _ _ _ _ _).star ((firm_blk _ _ _).star firm_nought)
theorem Rl17.below (h:Rl17 w z sb v pv n q)(hb:Below z.heap.size z z'):Rl17 w z' sb v pv n q:=Hold.below h ((firm_rowK _ _ _ _ _).star rl_firm) hb
theorem Rl17.box (h:Rl17 w z sb v pv n q):Blk z w.heap.size 44 sb:=(Hold.right (Hold.right h)).blk
theorem Rl17.row (h:Rl17 w z sb v pv n q):z.ownsRow 0 9 1 pv n (strs n (bP n eL)):=Hold.rowK (Hold.right h)
theorem Rl17.push (h:Rl17 w z sb v pv n q)(hq:q.length≤1000)(p:Wr):∃a c z',(Builtin.append_ #[71,71] 71 #[v,.slice (some ⟨z.heap.size,0,none⟩) 1 1]).run Tryz.prog (z.alloc (.cells #[.int .i64 (p.1:Int),.string p.2] 130))=.ok (.slice a (q.length+1) c) z'∧Rl17 w z' sb (.slice a (q.length+1) c) pv n (q++[p]):=by
 obtain⟨a,c,z',h1,h2⟩:=push_rwr rl_firm h hq p
 refine⟨a,c,z',h1,?_⟩
 unfold Rl17
 rw[List.length_append];exact h2
end
set_option maxHeartbeats 2000000 in
theorem rblank_any {w:World}{pv:Value}{i:Int}{d n:Nat}{key:ByteArray}(hg:RGoodIs w (slV pv i (n:Int) key) true)(ht:RTabs w)(hn:2^d=n)(hd:1≤d∧d≤4):Calls Tryz.prog 26 #[slV pv i (n:Int) key] w fun e w'=>∃v,e=.returned (.tuple #[v,.string (tdg eL n 1),.int .i64 0])∧w'.ownsRow w.heap.size 130 2 v (blW n).length (pairs (blW n))∧Below w.heap.size w w':=by
 have h16:n≤16:=by rw[←hn];exact pow_le16 d hd.2
 have h2n:2≤n:=by rw[←hn];exact(pow_mono hd.1)
 have hb:Hid (Below w.heap.size w (w.alloc (.cells #[pv,.int .i64 i,.int .i64 (n:Int),.string key] 44))):=(Below.refl _ _).alloc (Nat.le_refl _) _
 have hB:Hid (Blk _ _ _ _):=Blk.box w 44 [pv,.int .i64 i,.int .i64 (n:Int),.string key]
 have hc:Hid (Calls _ _ _ _ _):=hg _ hb.out
 have hz:Hid ((Tryz.prog.info? 44).map (·.size)=some 4):=Tryz.size44
 have hzr:=zeroRWr17
 have H0:=(hold_nought w.heap.size w w (Nat.le_refl _) (Below.refl _ _)).newBlk firm_nought 44 #[pv,.int .i64 i,.int .i64 (n:Int),.string key]
 have HLF:Hid (∀z,Below w.heap.size w z→Calls Tryz.prog 64 #[.int .u8 0,.string noB] z fun e w'=>e=.returned (.string (lH noB))∧Below z.heap.size z w'):=fun z hz=>rleaf_any noB (by decide) z (ht.below hz ht.lt)
 have HBU:Hid (∀z a c,Below w.heap.size w z→z.ownsRow 0 9 1 (.slice a n c) n (strs n fun _=>lH noB)→Calls Tryz.prog 65 #[.slice a n c] z fun e w'=>∃v,e=.returned (.tuple #[v,.string (tdg eL n 1),.int .i64 0])∧w'.ownsRow z.heap.size 9 1 v n (strs n (bP n eL))∧Below z.heap.size z w'):=fun z a c hz hB=>by
  obtain⟨e1,e2,e3,e4⟩:=bT_eL hn hd eL (fun _=>rfl)
  have hSa:Sa z a n eL:=by
   obtain⟨a',c',f1,f2⟩:=Sa.owns hB
   cases f1;exact f2
  have h:=rBuild_any a n c (by omega) eL z hSa (ht.below hz ht.lt)
  rw[e1,e2,e3]at h
  exact h
 generalize tdg eL n 1=top at*
 generalize lH noB=L at*
 clear hg ht hn hd
 go_enter Tryz.func26,Tryz.ntmps26
 go_wp2_with(first
  |(refine wpList_load_blk rfl 44 _ rfl w.heap.size rfl 44 [pv,.int .i64 i,.int .i64 (n:Int),.string key] _ hB.out Tryz.underlying44 rfl hz.out ?_)
  |(go_at_call 63;refine hc.out.mono ?_;rintro e w1 ⟨rfl,hw⟩;have H1:Hid (Hold w.heap.size w w1 (star (blkA w.heap.size 44 [pv,.int .i64 i,.int .i64 (n:Int),.string key]) nought)):=H0.below ((firm_blk _ _ _).star firm_nought) hw;clear hw)
  |(go_at_call 64;refine(HLF.out _ H1.out.low).mono ?_;rintro e w2 ⟨rfl,hw⟩;have H2:Hid (Hold w.heap.size w w2 (star (rowK 9 1 (.slice none 0 0) 0 (strs 0 fun _=>L)) (star (blkA w.heap.size 44 [pv,.int .i64 i,.int .i64 (n:Int),.string key]) nought))):=(H1.out.below ((firm_blk _ _ _).star firm_nought) hw).mono fun F h=>star_nil17 h;clear hw H1))
 go_loopw[6,8] (fun v j wr=>∃(k c:Nat) (a:Option Addr),k≤n∧j=.int .i64 (k:Int)∧v=.slice a k c∧Hid (Hold w.heap.size w wr (star (rowK 9 1 (.slice a k c) k (strs k fun _=>L)) (star (blkA w.heap.size 44 [pv,.int .i64 i,.int .i64 (n:Int),.string key]) nought)))) (fun _ j _=>n-(intOf j).toNat)
 case atStart=>exact⟨0,0,none,Nat.zero_le _,rfl,rfl,H2.out⟩
 case round=>
  clear H2 H0 hc hB hb
  obtain⟨k,c,a,hk,rfl,rfl,hh⟩:=hrel
  have c2:=hh.out.right.blk.cell (i:=2) rfl
  by_cases hlt:k<n
  ·have hk':(k:Int)<(n:Int):=by omega
   obtain⟨a',c',w6,hrun,h6⟩:=push_str17 ((firm_blk _ _ _).star firm_nought) hh.out (by omega) L rfl
   have H6:Hid (Hold w.heap.size w w6 (star (rowK 9 1 (.slice a' (k+1) c') (k+1) (strs (k+1) fun _=>L)) (star (blkA w.heap.size 44 [pv,.int .i64 i,.int .i64 (n:Int),.string key]) nought))):=h6
   clear h6 hh
   go_wp2_with(at_builtin;refine Lib.wpList_append_run _ rfl _ _ 30 30 rfl _ _ rfl rfl _ _ hrun ?_)
   go_roundw
   case rel=>exact⟨k+1,c',a',by omega,by go_num,rfl,H6.out⟩
   case measure=>simp[intOf];omega
  obtain rfl:k=n:=by omega
  have hk':¬(k:Int)<(k:Int):=by omega
  have hbu:=HBU.out wr a c hh.out.low hh.out.rowK
  have HX:Hid (Hold w.heap.size w wr (star (blkA w.heap.size 44 [pv,.int .i64 i,.int .i64 (k:Int),.string key]) nought)):=hh.out.right
  clear hh
  go_wp2_with(go_at_call 65;refine hbu.mono ?_;rintro e w3 ⟨pvv,rfl,hrow,hb3⟩;have H4:Hid (Rl17 w w3 [pv,.int .i64 i,.int .i64 (k:Int),.string key] (.slice none 0 0) pvv k (blP k 0)):=(HX.out.newRow ((firm_blk _ _ _).star firm_nought) hb3 hrow).mono fun F h=>star_nil17 h;clear hb3 hrow hbu)
  obtain⟨ap,cp,hpv⟩:=owns_form H4.out.row
  subst hpv
  have SB:Hid (∀z v q,Rl17 w z [pv,.int .i64 i,.int .i64 (k:Int),.string key] v (.slice ap k cp) k q→z.cell? ⟨w.heap.size,2,none⟩=some (.int .i64 (k:Int))):=fun z v q h=>h.box.cell (i:=2) rfl
  clear c2 HBU HLF HX
  go_loopw[12,13] (fun v j wr=>∃(m c:Nat) (a:Option Addr),m+1≤k∧j=.int .i64 ((m:Int)+1)∧v=.slice a m c∧Hid (Rl17 w wr [pv,.int .i64 i,.int .i64 (k:Int),.string key] (.slice a m c) (.slice ap k cp) k (blP k m))) (fun _ j _=>k-(intOf j).toNat)
  case atStart=>exact⟨0,0,none,by omega,rfl,rfl,H4.out⟩
  case round=>
   clear H4
   obtain⟨m,c,a,hm,rfl,rfl,hq⟩:=hrel
   have c2:=SB.out _ _ _ hq.out
   by_cases hlt2:m+1<k
   ·have hm':(m:Int)+1<(k:Int):=by omega
    have hat:=strs_at k (bP k eL) (m+1) hlt2
    rw[show bP k eL (m+1)=tpr eL k (m+1)from if_neg (by omega)]at hat
    obtain⟨gp,hgp,hcell⟩:=owns_cell hq.out.row hat
    subst hgp
    have hq1:=blP_length k m
    obtain⟨a',c',w6,hrun,h6⟩:=hq.out.push (by omega) (100+(m+1),tpr eL k (m+1))
    rw[hq1]at hrun h6
    have H6:Hid (Rl17 w w6 [pv,.int .i64 i,.int .i64 (k:Int),.string key] (.slice a' (m+1) c') (.slice (some ⟨gp,0,none⟩) k cp) k (blP k (m+1))):=h6
    have ekn:((m:Int)+1).toNat=m+1:=by omega
    have hk0:(0:Int)≤(m:Int)+1:=by omega
    have eA:((100+(m+1):Nat):Int)=100+((m:Int)+1):=by omega
    have hrun2:(Builtin.append_ #[71,71] 71 #[.slice a m c,.slice (some ⟨wr.heap.size,0,none⟩) 1 1]).run Tryz.prog (wr.alloc (.cells #[.int .i64 (100+((m:Int)+1)),.string (tpr eL k (m+1))] 130))=.ok (.slice a' (m+1) c') w6:=by rw[←eA];exact hrun
    generalize tpr eL k (m+1)=T at*
    clear h6 hq hat hq1 hrun eA
    go_wp2_with(at_builtin;refine Lib.wpList_append_run _ rfl _ _ 71 71 rfl _ _ rfl rfl _ _ hrun2 ?_)
    go_roundw
    case rel=>exact⟨m+1,c',a',by omega,by go_num,rfl,H6.out⟩
    case measure=>simp[intOf];omega
   obtain rfl:k=m+1:=by omega
   have hm':¬(m:Int)+1<((m+1:Nat):Int):=by omega
   have H5:Hid (Rl17 w wr [pv,.int .i64 i,.int .i64 ((m+1:Nat):Int),.string key] (.slice a m c) (.slice ap (m+1) cp) (m+1) (blP (m+1) m++blC 0)):=by
    show Rl17 _ _ _ _ _ _ _
    rw[show blC 0=[]from rfl,List.append_nil];exact hq.out
   have SC:Hid (∀z v q,Rl17 w z [pv,.int .i64 i,.int .i64 ((m+1:Nat):Int),.string key] v (.slice ap (m+1) cp) (m+1) q→z.cell? ⟨w.heap.size,2,none⟩=some (.int .i64 ((m+1:Nat):Int))):=SB.out
   generalize hN:((m+1:Nat):Int)=N at*
   have HN:Hid (((m+1:Nat):Int)=N):=hN
   have HNk:N=(m:Int)+1:=by omega
   clear hN hq SB
   go_wp2
   go_loopw[12,14] (fun v j wz=>∃(t c:Nat) (a:Option Addr),t≤m+1∧j=.int .i64 (t:Int)∧v=.slice a (m+t) c∧Hid (Rl17 w wz [pv,.int .i64 i,.int .i64 N,.string key] (.slice a (m+t) c) (.slice ap (m+1) cp) (m+1) (blP (m+1) m++blC t))) (fun _ j _=>m+1-(intOf j).toNat)
   case atStart=>exact⟨0,c,a,by omega,rfl,rfl,H5.out⟩
   case round=>
    clear H5 c2
    obtain⟨t,c,a,ht,rfl,rfl,hq⟩:=hrel
    have c2:=SC.out _ _ _ hq.out
    by_cases hlt3:t<m+1
    ·have ht':(t:Int)<N:=by omega
     have hql:(blP (m+1) m++blC t).length=m+t:=by rw[List.length_append,blP_length,blC_length]
     obtain⟨a',c',w6,hrun,h6⟩:=hq.out.push (by omega) (120+t,noB)
     rw[hql]at hrun h6
     have H6:Hid (Rl17 w w6 [pv,.int .i64 i,.int .i64 N,.string key] (.slice a' (m+(t+1)) c') (.slice ap (m+1) cp) (m+1) (blP (m+1) m++blC (t+1))):=by
      show Rl17 _ _ _ _ _ _ _
      have e1:blP (m+1) m++blC (t+1)=blP (m+1) m++blC t++[(120+t,noB)]:=by rw[List.append_assoc];rfl
      rw[e1];exact h6
     have eA:((120+t:Nat):Int)=120+(t:Int):=by omega
     have hrun2:(Builtin.append_ #[71,71] 71 #[.slice a (m+t) c,.slice (some ⟨wr.heap.size,0,none⟩) 1 1]).run Tryz.prog (wr.alloc (.cells #[.int .i64 (120+(t:Int)),.string noB] 130))=.ok (.slice a' (m+t+1) c') w6:=by rw[←eA];exact hrun
     clear h6 hq hql hrun eA
     go_wp2_with(at_builtin;refine Lib.wpList_append_run _ rfl _ _ 71 71 rfl _ _ rfl rfl _ _ hrun2 ?_)
     go_roundw
     case rel=>exact⟨t+1,c',a',by omega,by go_num,rfl,H6.out⟩
     case measure=>simp[intOf];omega
    obtain rfl:t=m+1:=by omega
    have hm':¬((m+1:Nat):Int)<N:=by have:=HN.out;omega
    have hm2:¬(m:Int)+1<N:=by omega
    go_wp2
    go_ret3
    exact⟨_,rfl,by
     show _
     have h:=Hold.rowBack hq.out
     have e1:blW (m+1)=blP (m+1) m++blC (m+1):=rfl
     rw[e1];exact h,Hold.low hq.out⟩
end Go.Proofs.YtnhkkhiajiiahaaGreatDoor
