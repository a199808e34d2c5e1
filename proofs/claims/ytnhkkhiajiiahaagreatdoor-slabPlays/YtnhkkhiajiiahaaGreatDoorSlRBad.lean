import Derived.Test.YtnhkkhiajiiahaaGreatDoorSlRGet
namespace Go.Proofs.YtnhkkhiajiiahaaGreatDoor
open Go.RowKit Go.PlainAid
set_option linter.unusedVariables false
set_option maxRecDepth 20000
set_option maxHeartbeats 1000000 in
theorem r17bad_form {w:World}{pv:Value}{i n:Int}{key:ByteArray}(hg:RGoodIs w (slV pv i n key) false)(top:ByteArray):Calls Tryz.prog 30 #[slV pv i n key,.string top] w fun e w'=>e=.returned (.slice none 0 0)∧Below w.heap.size w w':=by
 have hb:Hid (Below w.heap.size w (w.alloc (.cells #[pv,.int .i64 i,.int .i64 n,.string key] 44))):=(Below.refl _ _).alloc (Nat.le_refl _) _
 have hB:Hid (Blk _ _ _ _):=Blk.box w 44 [pv,.int .i64 i,.int .i64 n,.string key]
 have hc:Hid (Calls _ _ _ _ _):=hg _ hb.out
 have hz:Hid ((Tryz.prog.info? 44).map (·.size)=some 4):=Tryz.size44
 go_enter Tryz.func30,Tryz.ntmps30
 go_wp2_with(first
  |(refine wpList_load_blk rfl 44 _ rfl w.heap.size rfl 44 [pv,.int .i64 i,.int .i64 n,.string key] _ hB.out Tryz.underlying44 rfl hz.out ?_)
  |(go_at_call 63;refine hc.out.mono ?_;rintro e w1 ⟨rfl,hw⟩;have L1:Hid (Below w.heap.size w w1):=hb.out.trans (hw.mono hb.out.size);clear hw))
 go_ret
 exact⟨rfl,L1.out⟩
set_option maxHeartbeats 1000000 in
theorem r17bad_any {w:World}{pv:Value}{i:Int}{n:Nat}{key:ByteArray}(hg:RGoodIs w (slV pv i (n:Int) key) true)(hn:n≤16)(top:ByteArray)(T:Nat→ByteArray)(E:Nat→Int)(hget:∀z,Below w.heap.size w z→∀s:Nat,s<n→Calls Tryz.prog 36 #[slV pv i (n:Int) key,.string top,.int .i64 (s:Int)] z fun e w'=>e=.returned (.tuple #[.string (T s),.int .i64 (E s)])∧Below z.heap.size z w'):
 Calls Tryz.prog 30 #[slV pv i (n:Int) key,.string top] w fun e w'=>∃v,e=.returned v∧w'.ownsRow w.heap.size 3 1 v (bdN E n).length (bdV E n)∧Below w.heap.size w w':=by
 have hb:Hid (Below w.heap.size w (w.alloc (.cells #[pv,.int .i64 i,.int .i64 (n:Int),.string key] 44))):=(Below.refl _ _).alloc (Nat.le_refl _) _
 have hB:Hid (Blk _ _ _ _):=Blk.box w 44 [pv,.int .i64 i,.int .i64 (n:Int),.string key]
 have hc:Hid (Calls _ _ _ _ _):=hg _ hb.out
 have hz:Hid ((Tryz.prog.info? 44).map (·.size)=some 4):=Tryz.size44
 have hG:Hid (∀z,Below w.heap.size w z→∀s:Nat,s<n→Calls Tryz.prog 36 #[slV pv i (n:Int) key,.string top,.int .i64 (s:Int)] z fun e w'=>e=.returned (.tuple #[.string (T s),.int .i64 (E s)])∧Below z.heap.size z w'):=hget
 have H0:=(hold_nought w.heap.size w w (Nat.le_refl _) (Below.refl _ _)).newBlk firm_nought 44 #[pv,.int .i64 i,.int .i64 (n:Int),.string key]
 clear hget hg
 go_enter Tryz.func30,Tryz.ntmps30
 go_wp2_with(first
  |(refine wpList_load_blk rfl 44 _ rfl w.heap.size rfl 44 [pv,.int .i64 i,.int .i64 (n:Int),.string key] _ hB.out Tryz.underlying44 rfl hz.out ?_)
  |(go_at_call 63;refine hc.out.mono ?_;rintro e w1 ⟨rfl,hw⟩;have h1:=H0.below ((firm_blk _ _ _).star firm_nought) hw;have c2:=h1.blk.cell (i:=2) rfl;have H1:Hid (Hold w.heap.size w w1 (star (rowK 3 1 (.slice none 0 0) 0 []) (star (blkA w.heap.size 44 [pv,.int .i64 i,.int .i64 (n:Int),.string key]) nought))):=h1.mono fun F h=>star_nil17 h;clear hw h1))
 go_loopw[5,7] (fun v j wr=>∃(k m c:Nat) (a:Option Addr),k≤n∧j=.int .i64 (k:Int)∧v=.slice a m c∧Hid (m=(bdN E k).length)∧Hid (Hold w.heap.size w wr (star (rowK 3 1 (.slice a m c) m (bdV E k)) (star (blkA w.heap.size 44 [pv,.int .i64 i,.int .i64 (n:Int),.string key]) nought)))) (fun _ j _=>n-(intOf j).toNat)
 case atStart=>exact⟨0,0,0,none,Nat.zero_le _,rfl,rfl,rfl,H1.out⟩
 case round=>
  clear H1 H0 c2 hc hB
  obtain⟨k,m,c,a,hk,rfl,rfl,hm,hh⟩:=hrel
  have c2:=hh.out.right.blk.cell (i:=2) rfl
  by_cases hlt:k<n
  ·have hk':(k:Int)<(n:Int):=by omega
   have hbx:Hid (Blk wr w.heap.size 44 [pv,.int .i64 i,.int .i64 (n:Int),.string key]):=hh.out.right.blk
   have hcl:=hG.out wr hh.out.low k hlt
   have hm1:m≤16:=by have:=hm.out;have:=bdN_length E k;omega
   by_cases hE:E k=0
   ·have HN:Hid (m=(bdN E (k+1)).length∧bdV E k=bdV E (k+1)):=⟨by rw[(bdV_no hE).2];exact hm.out,(bdV_no hE).1.symm⟩
    rw[hE]at hcl
    go_wp2_with(first
     |(refine wpList_load_blk rfl 44 _ rfl w.heap.size rfl 44 [pv,.int .i64 i,.int .i64 (n:Int),.string key] _ hbx.out Tryz.underlying44 rfl hz.out ?_)
     |(go_at_call 36;refine hcl.mono ?_;rintro e w3 ⟨rfl,hb3⟩;have H3:Hid (Hold w.heap.size w w3 (star (rowK 3 1 (.slice a m c) m (bdV E k)) (star (blkA w.heap.size 44 [pv,.int .i64 i,.int .i64 (n:Int),.string key]) nought))):=hh.out.below ((firm_rowK _ _ _ _ _).star ((firm_blk _ _ _).star firm_nought)) hb3;clear hb3 hcl hh))
    go_roundw
    case rel=>exact⟨k+1,m,c,a,by omega,by go_num,rfl,HN.out.1,by rw[←HN.out.2];exact H3.out⟩
    case measure=>simp[intOf];omega
   have HN:Hid (m+1=(bdN E (k+1)).length∧bdV E k++[.int .i64 (k:Int)]=bdV E (k+1)):=⟨by rw[(bdV_yes hE).2,←hm.out],(bdV_yes hE).1.symm⟩
   have HPU:Hid (∀z,Hold w.heap.size w z (star (rowK 3 1 (.slice a m c) m (bdV E k)) (star (blkA w.heap.size 44 [pv,.int .i64 i,.int .i64 (n:Int),.string key]) nought))→_):=fun z h=>push_int17 ((firm_blk _ _ _).star firm_nought) h (by omega) (k:Int)
   generalize E k=Ek at*
   have hE':(Ek !=0)=true:=by simpa using hE
   go_wp2_with(first
    |(refine wpList_load_blk rfl 44 _ rfl w.heap.size rfl 44 [pv,.int .i64 i,.int .i64 (n:Int),.string key] _ hbx.out Tryz.underlying44 rfl hz.out ?_)
    |(go_at_call 36;refine hcl.mono ?_;rintro e w3 ⟨rfl,hb3⟩;obtain⟨a',c',w4,hrun,h4⟩:=HPU.out _ (hh.out.below ((firm_rowK _ _ _ _ _).star ((firm_blk _ _ _).star firm_nought)) hb3);have H4:Hid (Hold w.heap.size w w4 (star (rowK 3 1 (.slice a' (m+1) c') (m+1) (bdV E k++[.int .i64 (k:Int)])) (star (blkA w.heap.size 44 [pv,.int .i64 i,.int .i64 (n:Int),.string key]) nought))):=h4;clear hb3 hcl hh h4 HPU)
    |(at_builtin;refine Lib.wpList_append_run _ rfl _ _ 55 55 rfl _ _ rfl rfl _ _ hrun ?_))
   go_roundw
   case rel=>exact⟨k+1,m+1,c',a',by omega,by go_num,rfl,HN.out.1,by rw[←HN.out.2];exact H4.out⟩
   case measure=>simp[intOf];omega
  obtain rfl:k=n:=by omega
  have hk':¬(k:Int)<(k:Int):=by omega
  go_wp2
  go_ret
  exact⟨_,rfl,by rw[←hm.out];exact hh.out.rowBack,hh.out.low⟩
end Go.Proofs.YtnhkkhiajiiahaaGreatDoor
