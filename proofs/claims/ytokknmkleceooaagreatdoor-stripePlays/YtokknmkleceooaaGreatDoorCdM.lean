import Derived.Test.YtokknmkleceooaaGreatDoorBaseM
namespace Go.Proofs.YtokknmkleceooaaGreatDoor
set_option linter.unusedVariables false
set_option maxRecDepth 20000
set_option maxHeartbeats 8000000
open Go.Proofs.Tryz
open Go.RowKit Go.PlainAid
def hiW (n:Int)(i:Nat):Int:=if i=0 then n/4294967296 else n%4294967296
def numB (n:Int):BA:=strOfNums (a1x a1s (hiW n) 2)
theorem a5l (n:Int):(numB n).size=8:=by unfold numB;rw[strOfNums_size,a1h a1s (λ_=>rfl)]
theorem e0j (n:Int):a1x a1s (hiW n) 2=[n/4294967296/16777216,n/4294967296/65536%256,n/4294967296/256%256,n/4294967296%256,n%4294967296/16777216,n%4294967296/65536%256,n%4294967296/256%256,n%4294967296%256]:=rfl
theorem c0v (n:Int)(h0:0<=n)(h1:n<=18446744073709551615)(w:World):Calls prog 120 #[.int .u64 n] w λe w'=>e=.returned (.string (numB n))/\Below w.heap.size w w':=by
 have e1:n/4294967296%4294967296=n/4294967296:=by omega
 have hB:Hid (Below w.heap.size w (w.alloc (.cells #[.int .u32 (n/4294967296),.int .u32 (n%4294967296)] 195))):=(qw _ _).alloc (ql _) _;have hA:Hid (At (w.alloc (.cells #[.int .u32 (n/4294967296),.int .u32 (n%4294967296)] 195)) (some ⟨w.heap.size,0,none⟩) 2 (hiW n)):=.inr ⟨_,_,rfl,λi hi=>by
  rcases(by omega:i=0\/i=1)with rfl|rfl
  ·exact(Blk.new w 195 #[.int .u32 (n/4294967296),.int .u32 (n%4294967296)]).cell rfl
  ·exact(Blk.new w 195 #[.int .u32 (n/4294967296),.int .u32 (n%4294967296)]).cell rfl⟩
 have hf:Hid (∀i,i<2->0<=hiW n i/\hiW n i<4294967296):=λi hi=>by
  unfold hiW;split<;>omega
 go_enter func120,ntmps120;go_wp2_with(go_at_call 173;refine(a8n _ _ 2 (hiW n) _ (by decide) hA.out hf.out).mono ?_;rintro e w1 ⟨rfl,hb⟩);go_ret;exact⟨rfl,hB.out.trans (hb.mono hB.out.size)⟩
def nB (N k j:Nat):Nat:=if j+k<8 then 0 else N/256^(7-j)%256
theorem e5d (N k:Nat)(hk:k<8):nr .u8 8 (λi=>if i=7-k then N/256^k%256 else nB N k i)=nr .u8 8 (nB N (k+1)):=by
 apply a0t;intro i hi;unfold nB;by_cases h:i=7-k
 ·subst h;rw[qp rfl,qn (by omega),show 7-(7-k)=k by omega]
 ·rw[qn h];by_cases h2:i+k<8
  ·rw[qp h2,qp (by omega)]
  ·rw[qn h2,qn (by omega)]
theorem e8d (N:Nat)(h:N<=18446744073709551615):tx 8 (nB N 8)=numB (N:Int):=by
 unfold tx numB;rw[e0j];congr 1;show [((nB N 8 0:Nat):Int),((nB N 8 1:Nat):Int),((nB N 8 2:Nat):Int),((nB N 8 3:Nat):Int),((nB N 8 4:Nat):Int),((nB N 8 5:Nat):Int),((nB N 8 6:Nat):Int),((nB N 8 7:Nat):Int)]=_;rw[show nB N 8 0=N/72057594037927936%256 from rfl,show nB N 8 1=N/281474976710656%256 from rfl,show nB N 8 2=N/1099511627776%256 from rfl,show nB N 8 3=N/4294967296%256 from rfl,show nB N 8 4=N/16777216%256 from rfl,show nB N 8 5=N/65536%256 from rfl,show nB N 8 6=N/256%256 from rfl,show nB N 8 7=N/1%256 from rfl];simp only[List.cons.injEq,and_true];refine⟨?_,?_,?_,?_,?_,?_,?_,?_⟩<;>omega
theorem b9c (N:Nat)(h1':N<=18446744073709551615)(w:World):Calls prog 140 #[.int .u64 (N:Int)] w λe w'=>e=.returned (.string (numB (N:Int)))/\Below w.heap.size w w':=by
 have hz0:nr .u8 8 (nB N 0)=[.int .u8 0,.int .u8 0,.int .u8 0,.int .u8 0,.int .u8 0,.int .u8 0,.int .u8 0,.int .u8 0]:=rfl;have hb0:Hid (Blk (w.alloc (.cells #[.int .u8 0,.int .u8 0,.int .u8 0,.int .u8 0,.int .u8 0,.int .u8 0,.int .u8 0,.int .u8 0] 267)) w.heap.size 267 (nr .u8 8 (nB N 0))):=by
  rw[hz0];exact Blk.new w 267 #[.int .u8 0,.int .u8 0,.int .u8 0,.int .u8 0,.int .u8 0,.int .u8 0,.int .u8 0,.int .u8 0]
 have hl0:Hid (Below w.heap.size w (w.alloc (.cells #[.int .u8 0,.int .u8 0,.int .u8 0,.int .u8 0,.int .u8 0,.int .u8 0,.int .u8 0,.int .u8 0] 267))):=(qw _ _).alloc (ql _) _;clear hz0;have h1:Hid (N<=18446744073709551615):=h1';clear h1';go_enter func140,ntmps140;go_wp2;go_loopw[0,4] (λn i wr=>∃k:Nat,k<=8/\i=.int .i64 (7-(k:Int))/\n=.int .u64 ((N/256^k:Nat):Int)/\Hid (Blk wr w.heap.size 267 (nr .u8 8 (nB N k)))/\Hid (Below w.heap.size w wr)) (λ_ i _=>(intOf i+1).toNat)
 case atStart=>exact⟨0,by omega,rfl,by simp,hb0.out,hl0.out⟩
 case round=>
  clear hb0 hl0;obtain⟨k,hk,rfl,rfl,hb,hl⟩:=hrel;by_cases p9:k<8
  ·obtain⟨j,hj⟩:∃j:Nat,j=7-k:=⟨_,rfl⟩;have hj1:(7:Int)-(k:Int)=(j:Int):=(by omega);have hj2:j<8:=(by omega);obtain⟨M,hM⟩:∃M:Nat,M=N/256^k:=⟨_,rfl⟩;have hM2:(M:Int)<=18446744073709551615:=(by rw[hM];have:=Nat.le_trans (Nat.div_le_self N (256^k)) h1.out;omega);obtain⟨m,hm⟩:∃m:Nat,m=M%256:=⟨_,rfl⟩;obtain⟨d,hd⟩:∃d:Nat,d=M/256:=⟨_,rfl⟩;have hM3:(d:Int)=((N/256^(k+1):Nat):Int):=(by rw[hd,hM,Nat.div_div_eq_div_mul,<-Nat.pow_succ]);have hM4:(M:Int)%256=(m:Int):=(by omega);have hM5:(m:Int)%256=(m:Int):=(by omega);have hM6:(M:Int)/256=(d:Int):=(by omega);have c0:=hb.out.cell (a3c .u8 8 (nB N k) j hj2);have f0:=hb.out.frozen j;have hb2:Hid (Blk (wr.setCell ⟨w.heap.size,j,none⟩ (.int .u8 (m:Int))) w.heap.size 267 (nr .u8 8 (nB N (k+1)))):=by
    have:=hb.out.setCell j (.int .u8 (m:Int));rw[a4i,hm,hM,hj,e5d N k p9]at this;rw[hm,hM,hj];exact this
   have hl2:Hid (Below w.heap.size w (wr.setCell ⟨w.heap.size,j,none⟩ (.int .u8 (m:Int)))):=hl.out.setCell (ql _) _;have HJ:Hid (j=7-k):=hj;have HM:Hid ((d:Int)=((N/256^(k+1):Nat):Int)):=hM3;rw[hj1,<-hM];clear hb hl hM hM3 hj hj1 hm hd;generalize nB N k j=c at*;go_wp2;go_roundw
   case rel=>exact⟨k+1,by omega,by have:=HJ.out;go_num,by rw[<-HM.out],hb2.out,hl2.out⟩
   case measure=>simp[intOf]
  ·have hk8:k=8:=(by omega);subst hk8;have hc:=a3y hb.out 8 8 (ql _);rw[e8d N h1.out]at hc;generalize N/256^8=M;clear hb;go_wp2;go_ret;exact⟨rfl,hl.out⟩
end Go.Proofs.YtokknmkleceooaaGreatDoor
