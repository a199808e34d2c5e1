import Derived.Test.YtnhkkhiajiiahaaGreatDoorSlAcM
import Derived.Test.YtnhkkhiajiiahaaGreatDoorSlAcE
import Derived.Test.YtnhkkhiajiiahaaGreatDoorSlAcF
import Derived.Test.YtnhkkhiajiiahaaGreatDoorSlAcG
import Derived.Test.YtnhkkhiajiiahaaGreatDoorSlAcH
import Derived.Test.YtnhkkhiajiiahaaGreatDoorSlAcI
import Derived.Test.YtnhkkhiajiiahaaGreatDoorSlBegin2
namespace Go.Proofs.YtnhkkhiajiiahaaGreatDoor
open Go.RowKit Go.PlainAid
set_option linter.unusedVariables false
set_option maxRecDepth 20000
theorem tm8 (d:Int):d.tmod 8=-7∨d.tmod 8=-6∨d.tmod 8=-5∨d.tmod 8=-4∨d.tmod 8=-3∨d.tmod 8=-2∨d.tmod 8=-1∨d.tmod 8=0∨d.tmod 8=1∨d.tmod 8=2∨d.tmod 8=3∨d.tmod 8=4∨d.tmod 8=5∨d.tmod 8=6∨d.tmod 8=7:=by
 rcases Int.le_total 0 d with h|h
 ·have e:=Int.tmod_eq_emod_of_nonneg (b:=8) h
  omega
 have e:(-d).tmod 8=(-d)%8:=Int.tmod_eq_emod_of_nonneg (b:=8) (by omega)
 rw[Int.neg_tmod]at e
 omega
theorem act_any {w0 z:World}{gx g gr m:Nat}{i n:Int}{key:ByteArray}{R:Asn}(hR:Firm R)(h:Py w0.heap.size w0 z gx g gr i n key m R)(hm:m≤40000)(ht:∀z,Below w0.heap.size w0 z→Tabs z∧RTabs z)(A:Ac)(hA:A.Ok2 w0):
 Calls Tryz.prog 11 #[.pointer (some ⟨gx,0,none⟩),.agg #[.int .i64 A.d,.int .i64 A.s,.int .i64 A.a,.int .u8 A.t,.slice A.ca A.cl A.cc,.string A.p]] z fun e w'=>e=.returned (.bool true)∧Py w0.heap.size w0 w' gx g gr i n key (m+50) R:=by
 obtain⟨b,b',top,h1,hS,hO,hf⟩:=h
 obtain⟨d,s,a,t,ca,cl,cc,p⟩:=A
 obtain⟨⟨hd,hs,ha,ht8,hp⟩,sx,hT⟩:=hA
 have hcl:cl≤cc∧cc≤maxLen:=⟨hT.1,hT.2.1⟩
 have htx:∀z,Below w0.heap.size w0 z→∀k,k<cl→∃bb o,ca=some ⟨bb,o,none⟩∧z.cell? ⟨bb,o+k,none⟩=some (.string (sx k)):=fun z hz k hk=>Tin.at hT hz k hk
 simp only at hd hs ha ht8 hp⊢
 rcases tm8 d with hd8|hd8|hd8|hd8|hd8|hd8|hd8|hd8|hd8|hd8|hd8|hd8|hd8|hd8|hd8
 ·exact act_get7 hR h1 hS hO hf hm ht (.inr hd8)
 ·exact act_crash6 hR h1 hS hO hf hm ht (.inr hd8)
 ·exact act_cut5 hR h1 hS hO hf hm ht ha.2 (.inr hd8)
 ·by_cases hi:i<0∨(2:Int)≤i
  ·exact act_tout4 hR h1 hS hO hf hm ht hp hi (.inr hd8)
  obtain⟨j,rfl⟩:∃j:Nat,i=(j:Int):=⟨i.toNat,by omega⟩
  exact act_tamp4 (by omega) hR h1 hS hO hf hm ht hp (.inr hd8)
 ·exact act_bad3 hR h1 hS hO hf hm ht (.inr hd8)
 ·exact act_get2 hR h1 hS hO hf hm ht (.inr hd8)
 ·exact act_cells1 hR h1 hS hO hf hm ht hcl htx (.inr hd8)
 ·obtain⟨dt,hdt⟩:∃dt:Nat,t=(dt:Int):=⟨t.toNat,by omega⟩
  subst hdt
  by_cases h77:a=77
  ·exact act_sealp hR h1 hS hO hf hm ht (t:=(dt:Int)) rfl (by omega) h77 hd8
  exact act_sealn hR h1 hS hO hf hm ht (t:=(dt:Int)) rfl (by omega) h77 hd8
 ·exact act_cells1 hR h1 hS hO hf hm ht hcl htx (.inl hd8)
 ·exact act_get2 hR h1 hS hO hf hm ht (.inl hd8)
 ·exact act_bad3 hR h1 hS hO hf hm ht (.inl hd8)
 ·by_cases hi:i<0∨(2:Int)≤i
  ·exact act_tout4 hR h1 hS hO hf hm ht hp hi (.inl hd8)
  obtain⟨j,rfl⟩:∃j:Nat,i=(j:Int):=⟨i.toNat,by omega⟩
  exact act_tamp4 (by omega) hR h1 hS hO hf hm ht hp (.inl hd8)
 ·exact act_cut5 hR h1 hS hO hf hm ht ha.2 (.inl hd8)
 ·exact act_crash6 hR h1 hS hO hf hm ht (.inl hd8)
 exact act_get7 hR h1 hS hO hf hm ht (.inl hd8)
theorem sized_any (x:Int):∃N:Int,∀w,Calls Tryz.prog 9 #[.int .i64 x] w fun e w'=>e=.returned (.int .i64 N)∧w'=w:=by
 by_cases h:0≤x
 ·by_cases h2:x<20
  ·have hm:x.tmod 4=x%4:=Int.tmod_eq_emod_of_nonneg h
   rcases(by omega:x%4=0∨x%4=1∨x%4=2∨x%4=3)with hk|hk|hk|hk
   ·rw[hk]at hm
    refine⟨2,fun w=>?_⟩
    go_enter Tryz.func9,Tryz.ntmps9
    go_wp2
    go_ret
    exact⟨by simp,rfl⟩
   ·rw[hk]at hm
    refine⟨4,fun w=>?_⟩
    go_enter Tryz.func9,Tryz.ntmps9
    go_wp2
    go_ret
    exact⟨by simp,rfl⟩
   ·rw[hk]at hm
    refine⟨8,fun w=>?_⟩
    go_enter Tryz.func9,Tryz.ntmps9
    go_wp2
    go_ret
    exact⟨by simp,rfl⟩
   rw[hk]at hm
   refine⟨16,fun w=>?_⟩
   go_enter Tryz.func9,Tryz.ntmps9
   go_wp2
   go_ret
   exact⟨by simp,rfl⟩
  refine⟨x,fun w=>?_⟩
  go_enter Tryz.func9,Tryz.ntmps9
  go_wp2
  go_ret
  exact⟨rfl,rfl⟩
 refine⟨x,fun w=>?_⟩
 go_enter Tryz.func9,Tryz.ntmps9
 go_wp2
 go_ret
 exact⟨rfl,rfl⟩
theorem py_begin {B:Nat}{w0 w:World}{R:Asn}(hR:Firm R)(h:Hold B w0 w R)(ht:∀z,Below B w0 z→Tabs z∧RTabs z)(i n:Int)(f:Nat→Nat):
 Calls Tryz.prog 8 #[.int .i64 n,.int .i64 i,.agg (nr .u8 32 f).toArray] w fun e w'=>∃gx g gr,e=.returned (.tuple #[.pointer (some ⟨gx,0,none⟩),.bool true])∧Py B w0 w' gx g gr i n (tx 32 f) 100 R:=by
 rcases gd_cases i n (tx 32 f)with⟨i',d,n',rfl,hi,rfl,hn,hd,hk⟩|hg
 ·exact(py_begin_ok hR h ht hi hn hd f).mono fun e w' ⟨gx,g,gr,b,b',l,h1,h2,_,_,h5,h6,h7⟩=>⟨gx,g,gr,h1,b,b',_,h2,h6,h7,h5⟩
 exact(py_begin_bad hR h ht f hg).mono fun e w' ⟨gx,g,gr,b,b',h1,h2,h5,h6,h7⟩=>⟨gx,g,gr,h1,b,b',_,h2,h6,h7,h5⟩
end Go.Proofs.YtnhkkhiajiiahaaGreatDoor
