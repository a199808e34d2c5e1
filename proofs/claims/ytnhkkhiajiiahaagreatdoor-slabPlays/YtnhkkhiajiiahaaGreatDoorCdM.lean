import Derived.Test.YtnhkkhiajiiahaaGreatDoorBaseM
namespace Go.Proofs.YtnhkkhiajiiahaaGreatDoor
set_option maxRecDepth 20000
open Go.RowKit Go.PlainAid
set_option linter.unusedVariables false
def hiW (n:Int)(i:Nat):Int:=if i=0 then n/4294967296 else n%4294967296
def numB (n:Int):ByteArray:=strOfNums (joinF fourB (hiW n) 2)
theorem numB_size (n:Int):(numB n).size=8:=by unfold numB;rw[strOfNums_size,joinF_length fourB (fun _=>rfl)]
theorem eight_is (n:Int):joinF fourB (hiW n) 2=[n/4294967296/16777216,n/4294967296/65536%256,n/4294967296/256%256,n/4294967296%256,n%4294967296/16777216,n%4294967296/65536%256,n%4294967296/256%256,n%4294967296%256]:=rfl
theorem cnumF_any (n:Int)(h0:0≤n)(h1:n≤18446744073709551615)(w:World):Calls Tryz.prog 80 #[.int .u64 n] w fun e w'=>e=.returned (.string (numB n))∧Below w.heap.size w w':=by
 have e1:n/4294967296%4294967296=n/4294967296:=by omega
 have hB:Hid (Below w.heap.size w (w.alloc (.cells #[.int .u32 (n/4294967296),.int .u32 (n%4294967296)] 150))):=(Below.refl _ _).alloc (Nat.le_refl _) _
 have hA:Hid (At (w.alloc (.cells #[.int .u32 (n/4294967296),.int .u32 (n%4294967296)] 150)) (some ⟨w.heap.size,0,none⟩) 2 (hiW n)):=.inr ⟨_,_,rfl,fun i hi=>by
  rcases(by omega:i=0∨i=1)with rfl|rfl
  ·exact(Blk.new w 150 #[.int .u32 (n/4294967296),.int .u32 (n%4294967296)]).cell rfl
  exact(Blk.new w 150 #[.int .u32 (n/4294967296),.int .u32 (n%4294967296)]).cell rfl⟩
 have hf:Hid (∀i,i<2→0≤hiW n i∧hiW n i<4294967296):=fun i hi=>by
  unfold hiW;split<;>omega
 go_enter Tryz.func80,Tryz.ntmps80
 go_wp2_with(go_at_call 129;refine(fromBig_any _ _ 2 (hiW n) _ (by decide) hA.out hf.out).mono ?_;rintro e w1 ⟨rfl,hb⟩)
 go_ret
 exact⟨rfl,hB.out.trans (hb.mono hB.out.size)⟩
def nB (N k j:Nat):Nat:=if j+k<8 then 0 else N/256^(7-j)%256
theorem nB_step (N k:Nat)(hk:k<8):nr .u8 8 (fun i=>if i=7-k then N/256^k%256 else nB N k i)=nr .u8 8 (nB N (k+1)):=by
 apply nr_congr
 intro i hi
 unfold nB
 by_cases h:i=7-k
 ·subst h
  rw[if_pos rfl,if_neg (by omega),show 7-(7-k)=k by omega]
 rw[if_neg h]
 by_cases h2:i+k<8
 ·rw[if_pos h2,if_pos (by omega)]
 rw[if_neg h2,if_neg (by omega)]
theorem nB_all (N:Nat)(h:N≤18446744073709551615):tx 8 (nB N 8)=numB (N:Int):=by
 unfold tx numB
 rw[eight_is]
 congr 1
 show [((nB N 8 0:Nat):Int),((nB N 8 1:Nat):Int),((nB N 8 2:Nat):Int),((nB N 8 3:Nat):Int),((nB N 8 4:Nat):Int),((nB N 8 5:Nat):Int),((nB N 8 6:Nat):Int),((nB N 8 7:Nat):Int)]=_
 rw[show nB N 8 0=N/72057594037927936%256 from rfl,show nB N 8 1=N/281474976710656%256 from rfl,show nB N 8 2=N/1099511627776%256 from rfl,show nB N 8 3=N/4294967296%256 from rfl,show nB N 8 4=N/16777216%256 from rfl,show nB N 8 5=N/65536%256 from rfl,show nB N 8 6=N/256%256 from rfl,show nB N 8 7=N/1%256 from rfl]
 simp only[List.cons.injEq,and_true]
 refine⟨?_,?_,?_,?_,?_,?_,?_,?_⟩<;>omega
set_option maxHeartbeats 1000000 in
theorem rnumF_any (N:Nat)(h1':N≤18446744073709551615)(w:World):Calls Tryz.prog 117 #[.int .u64 (N:Int)] w fun e w'=>e=.returned (.string (numB (N:Int)))∧Below w.heap.size w w':=by
 have hz0:nr .u8 8 (nB N 0)=[.int .u8 0,.int .u8 0,.int .u8 0,.int .u8 0,.int .u8 0,.int .u8 0,.int .u8 0,.int .u8 0]:=rfl
 have hb0:Hid (Blk (w.alloc (.cells #[.int .u8 0,.int .u8 0,.int .u8 0,.int .u8 0,.int .u8 0,.int .u8 0,.int .u8 0,.int .u8 0] 232)) w.heap.size 232 (nr .u8 8 (nB N 0))):=by
  rw[hz0];exact Blk.new w 232 #[.int .u8 0,.int .u8 0,.int .u8 0,.int .u8 0,.int .u8 0,.int .u8 0,.int .u8 0,.int .u8 0]
 have hl0:Hid (Below w.heap.size w (w.alloc (.cells #[.int .u8 0,.int .u8 0,.int .u8 0,.int .u8 0,.int .u8 0,.int .u8 0,.int .u8 0,.int .u8 0] 232))):=(Below.refl _ _).alloc (Nat.le_refl _) _
 clear hz0
 have h1:Hid (N≤18446744073709551615):=h1'
 clear h1'
 go_enter Tryz.func117,Tryz.ntmps117
 go_wp2
 go_loopw[0,4] (fun n i wr=>∃k:Nat,k≤8∧i=.int .i64 (7-(k:Int))∧n=.int .u64 ((N/256^k:Nat):Int)∧Hid (Blk wr w.heap.size 232 (nr .u8 8 (nB N k)))∧Hid (Below w.heap.size w wr)) (fun _ i _=>(intOf i+1).toNat)
 case atStart=>exact⟨0,by omega,rfl,by simp,hb0.out,hl0.out⟩
 case round=>
  clear hb0 hl0
  obtain⟨k,hk,rfl,rfl,hb,hl⟩:=hrel
  by_cases hlt:k<8
  ·obtain⟨j,hj⟩:∃j:Nat,j=7-k:=⟨_,rfl⟩
   have hj1:(7:Int)-(k:Int)=(j:Int):=by omega
   have hj2:j<8:=by omega
   obtain⟨M,hM⟩:∃M:Nat,M=N/256^k:=⟨_,rfl⟩
   have hM2:(M:Int)≤18446744073709551615:=by rw[hM];have:=Nat.le_trans (Nat.div_le_self N (256^k)) h1.out;omega
   obtain⟨m,hm⟩:∃m:Nat,m=M%256:=⟨_,rfl⟩
   obtain⟨d,hd⟩:∃d:Nat,d=M/256:=⟨_,rfl⟩
   have hM3:(d:Int)=((N/256^(k+1):Nat):Int):=by rw[hd,hM,Nat.div_div_eq_div_mul,←Nat.pow_succ]
   have hM4:(M:Int)%256=(m:Int):=by omega
   have hM5:(m:Int)%256=(m:Int):=by omega
   have hM6:(M:Int)/256=(d:Int):=by omega
   have c0:=hb.out.cell (nr_at .u8 8 (nB N k) j hj2)
   have f0:=hb.out.frozen j
   have hb2:Hid (Blk (wr.setCell ⟨w.heap.size,j,none⟩ (.int .u8 (m:Int))) w.heap.size 232 (nr .u8 8 (nB N (k+1)))):=by
    have:=hb.out.setCell j (.int .u8 (m:Int))
    rw[nr_set,hm,hM,hj,nB_step N k hlt]at this
    rw[hm,hM,hj];exact this
   have hl2:Hid (Below w.heap.size w (wr.setCell ⟨w.heap.size,j,none⟩ (.int .u8 (m:Int)))):=hl.out.setCell (Nat.le_refl _) _
   have HJ:Hid (j=7-k):=hj
   have HM:Hid ((d:Int)=((N/256^(k+1):Nat):Int)):=hM3
   rw[hj1,←hM]
   clear hb hl hM hM3 hj hj1 hm hd
   generalize nB N k j=c at*
   go_wp2
   go_roundw
   case rel=>exact⟨k+1,by omega,by have:=HJ.out;go_num,by rw[←HM.out],hb2.out,hl2.out⟩
   case measure=>simp[intOf]
  have hk8:k=8:=by omega
  subst hk8
  have hc:=conv_blk hb.out 8 8 (Nat.le_refl _)
  rw[nB_all N h1.out]at hc
  generalize N/256^8=M
  clear hb
  go_wp2
  go_ret
  exact⟨rfl,hl.out⟩
end Go.Proofs.YtnhkkhiajiiahaaGreatDoor
