import Derived.Test.YtokknmkleceooaaGreatDoorStMake
import Derived.Test.YtokknmkleceooaaGreatDoorStLyM
namespace Go.Proofs.YtokknmkleceooaaGreatDoor
set_option linter.unusedVariables false
set_option maxRecDepth 20000
set_option maxHeartbeats 8000000
open Go.Proofs.Tryz
open Go.RowKit Go.PlainAid
theorem c4i (a b:Option Addr)(n ca cb:Nat)(F:Nat->BA)(w:World)(hn:n<=1000)(ha:Vals w a n λi=>.string (F i))(hb:Vals w b n λi=>.string (F i)):
 Calls prog 11 #[.slice a n ca,.slice b n cb] w λe w'=>e=.returned (.bool true)/\Below w.heap.size w w':=by
 have HA:=ha.at;have HB:=hb.at;have t0:((n:Int) !=(n:Int))=false:=by simp
 clear ha hb;go_enter func11,ntmps11;go_wp2_with fail;go_loopw[13] (λi wr=>∃k:Nat,k<=n/\i=.int .i64 k/\Below w.heap.size w wr) (λi _=>(n:Nat)-(intOf i).toNat)
 case atStart=>exact⟨0,Nat.zero_le _,rfl,qw _ _⟩
 case round=>
  obtain⟨k,hk,rfl,aS⟩:=hrel;by_cases p9:k<n
  ·obtain⟨b1,o1,rfl,e1⟩:=HA.out wr aS k p9;obtain⟨b2,o2,rfl,e2⟩:=HB.out wr aS k p9;have kn:(k:Int)<(n:Int):=(by omega);generalize F k=s at e1 e2;go_wp2_with fail
   go_quiet(fail)
   go_wp2_with fail;go_roundw
   case rel=>exact⟨k+1,by omega,by go_num,below_drewN aS _⟩
   case measure=>simp[intOf];omega
  ·have aM:n=k:=(by omega);subst aM;go_wp2_with fail;go_ret;exact⟨rfl,aS⟩
end Go.Proofs.YtokknmkleceooaaGreatDoor
