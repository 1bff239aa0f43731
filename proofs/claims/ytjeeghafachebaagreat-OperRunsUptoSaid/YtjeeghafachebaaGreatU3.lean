/-
  3.
-/
import Derived.Test.YtjeeghafachebaaGreatU2
import Derived.Lib.AppendIntMem
set_option maxRecDepth 100000
set_option maxHeartbeats 1000000
namespace Go.Proofs.YtjeeghafachebaaGreat
open Go.RowKit Go.Proofs.Tryz
def pJ(c:Nat):Bool:=decide ((97<=c/\c<=122)∨(48<=c/\c<=57)∨c=45)
def kr(s:List (BitVec 8)):Bool:=(s.all λc=>pJ c.toNat) && decide (1<=s.length/\s.length<=16)
structure bN where
 kind:Int
 key:List (BitVec 8)
 time:Int
 value:Int
def bN.cells(x:bN):Array Value:=#[.int .i64 x.kind,Sv x.key,.int .i64 x.time,.int .i64 x.value]
def bN.bB(x:bN):Bool:=
 decide (0<=x.time/\x.time<=1099511627776) && if x.kind=2 then decide (x.key=[]/\x.value=0)else decide (x.kind=1) && kr x.key && decide (-1099511627776<=x.value/\x.value<=1099511627776)
theorem Bi(s:List (BitVec 8))(k:Nat)(h:k<s.length):(s.take (k+1)).all (λc=>pJ c.toNat)=((s.take k).all (λc=>pJ c.toNat) && pJ (gl s k).toNat):=by
 rw[List.take_succ_eq_append_getElem h,List.all_append];simp[gl,h]
theorem Dj(s:List (BitVec 8))(k:Nat)(h:k<s.length)(hb:pJ (gl s k).toNat=false):kr s=false:=by
 unfold kr;have:s.all (λc=>pJ c.toNat)=false:=by
  rw[Bool.eq_false_iff];intro ha;rw[bgt]at ha;have:=ha (gl s k) (by simp[gl,h])
  rw[this]at hb;cases hb
 rw[this];rfl
end Go.Proofs.YtjeeghafachebaaGreat
namespace Go.Proofs.YtjeeghafachebaaGreat
open Go Go.RowKit Go.Proofs.Tryz
theorem LG(w:World)(x:Nat):Calls prog 93 #[.int .u8 (x:Int)] w λe w'=>e=.returned (.bool (pJ x))/\w'=w:=by
 obtain⟨r,hr⟩:=Nm (pJ x);rw[<-hr];have hd:r=decide ((97<=x/\x<=122)∨(48<=x/\x<=57)∨x=45):=hr;clear hr;have hcase:(97<=x/\x<=122/\r=true)∨(97<=x/\122<x/\r=false)∨(x<97/\48<=x/\x<=57/\r=true)∨(x<97/\48<=x/\57<x/\r=false)∨(x<97/\x<48/\x=45/\r=true)∨(x<97/\x<48/\x≠45/\r=false):=by
  rw[hd];simp only[bf0,decide_eq_false_iff_not];omega
 clear hd;rcases hcase with⟨h1,h2,rfl⟩ | ⟨h1,h2,rfl⟩ | ⟨h1,h2,h3,rfl⟩ | ⟨h1,h2,h3,rfl⟩ | ⟨h1,h2,h3,rfl⟩ | ⟨h1,h2,h3,rfl⟩
 ·have e1:decide ((97:Int)<=(x:Int))=true:=bfr (by omega)
  have e2:decide ((x:Int)<=(122:Int))=true:=bfr (by omega)
  go_enter func93,ntmps93;go_wp2_with(fail);go_ret;exact⟨rfl,rfl⟩
 ·have e1:decide ((97:Int)<=(x:Int))=true:=bfr (by omega)
  have e2:decide ((x:Int)<=(122:Int))=false:=bfq (by omega)
  have e3:decide ((48:Int)<=(x:Int))=true:=bfr (by omega)
  have e4:decide ((x:Int)<=(57:Int))=false:=bfq (by omega)
  have e5:((x:Int)==45)=false:=by simp;omega
  go_enter func93,ntmps93;go_wp2_with(fail);go_ret;exact⟨rfl,rfl⟩
 ·have e1:decide ((97:Int)<=(x:Int))=false:=bfq (by omega)
  have e3:decide ((48:Int)<=(x:Int))=true:=bfr (by omega)
  have e4:decide ((x:Int)<=(57:Int))=true:=bfr (by omega)
  go_enter func93,ntmps93;go_wp2_with(fail);go_ret;exact⟨rfl,rfl⟩
 ·have e1:decide ((97:Int)<=(x:Int))=false:=bfq (by omega)
  have e3:decide ((48:Int)<=(x:Int))=true:=bfr (by omega)
  have e4:decide ((x:Int)<=(57:Int))=false:=bfq (by omega)
  have e5:((x:Int)==45)=false:=by simp;omega
  go_enter func93,ntmps93;go_wp2_with(fail);go_ret;exact⟨rfl,rfl⟩
 ·have e1:decide ((97:Int)<=(x:Int))=false:=bfq (by omega)
  have e3:decide ((48:Int)<=(x:Int))=false:=bfq (by omega)
  have e5:((x:Int)==45)=true:=by simp;omega
  clear h3;go_enter func93,ntmps93;go_wp2_with(fail);go_ret;exact⟨rfl,rfl⟩
 have e1:decide ((97:Int)<=(x:Int))=false:=bfq (by omega)
 have e3:decide ((48:Int)<=(x:Int))=false:=bfq (by omega)
 have e5:((x:Int)==45)=false:=by simp;omega
 go_enter func93,ntmps93;go_wp2_with(fail);go_ret;exact⟨rfl,rfl⟩
def F6(w:World)(s:List (BitVec 8))(_i v:Value)(wr:World):Prop:=∃k:Nat,k<=s.length/\v=.int .i64 (k:Int)/\wr=w/\(s.take k).all (λc=>pJ c.toNat)=true
theorem tJ(w:World)(s:List (BitVec 8))(hl:s.length<=1000000):
  Calls prog 61 #[Sv s] w λe w'=>e=.returned (.bool (kr s))/\w'=w:=by
 obtain⟨n,hn⟩:=Nm (s.length);have lk:∀w ty,(Builtin.len_ #[9] ty #[Sv s]).run prog w=.ok (.int .i64 (n:Int)) w:=λw ty=>by rw[vR w ty s,hn]
 obtain⟨r,hr⟩:=Nm (kr s);rw[<-hr];have HN:=Lh (bfy hn hr);have Tx:n<=1000000:=by omega
 clear hn hr hl;by_cases h1:n<1
 ·obtain rfl:r=false:=by rw[HN.out.2,kr,<-HN.out.1,bfq (by omega),Bool.and_false]
  have h1':(n:Int)<1:=by omega
  clear Tx h1;go_enter func61,ntmps61;go_wp2_with(fail);go_ret;exact⟨rfl,rfl⟩
 by_cases h16:16<n
 ·obtain rfl:r=false:=by rw[HN.out.2,kr,<-HN.out.1,bfq (by omega),Bool.and_false]
  have h1':¬(n:Int)<1:=by omega
  have h2':(16:Int)<n:=by omega
  clear Tx h1 h16;go_enter func61,ntmps61;go_wp2_with(fail);go_ret;exact⟨rfl,rfl⟩
 have HL2:=Lh (show 1<=n/\n<=16 by omega)
 have h1':¬(n:Int)<1:=by omega
 have h2':¬(16:Int)<n:=by omega
 clear h1 h16 Tx;go_enter func61,ntmps61;go_wp2_with(fail);go_loopw[3,14] (F6 w s) (λ_ v _=>n-(intOf v).toNat)
 case atStart=>exact⟨0,by omega,rfl,rfl,rfl⟩
 case round=>
  obtain⟨k,hk,rfl,rfl,hall⟩:=hrel;rw[<-HN.out.1]at hk;by_cases hlt:k<n
  ·have hlt':(k:Int)<(n:Int):=by omega
   obtain⟨x,hx⟩:=Nm ((gl s k).toNat);have hix:∀w,(Instr.index 9 (Sv s) (.int .i64 (k:Int))).run prog w=.ok (.int .u8 (x:Int)) w:=λw=>by
    rw[xe w s k (by rw[<-HN.out.1];exact hlt),B,hx]
   have HS:=Lh (LG wr x);obtain⟨g,hg⟩:=Nm (pJ x);rw[<-hg]at HS
   cases g with
   | true=>
    have HZ:Hid (F6 wr s (.int .i64 (k:Int)) (.int .i64 ((k:Int)+1)) wr):=by
     refine⟨k+1,by rw[<-HN.out.1];omega,by go_num,rfl,?_⟩
     rw[Bi s k (by rw[<-HN.out.1];exact hlt),hall,<-hx,<-hg]
     rfl
    have HL:=Lh (bfy hlt HL2.out);clear hall hx hg hlt;go_wp2_with(fail);refine HS.out.mono ?_;rintro e w3 ⟨rfl,hw3⟩;subst w3;dsimp only;go_wp2_with(fail);have:=HL.out;exact⟨HZ.out,by simp[intOf];omega⟩
   | false=>
    obtain rfl:r=false:=by
     rw[HN.out.2];exact Dj s k (by rw[<-HN.out.1];exact hlt) (by rw[<-hx];exact hg.symm)
    clear hall hx hg hlt;go_wp2_with(fail);refine HS.out.mono ?_;rintro e w3 ⟨rfl,hw3⟩;subst w3;dsimp only;go_wp2_with(fail);go_ret;exact⟨rfl,rfl⟩
  obtain rfl:k=n:=by omega
  rw[HN.out.1,bgs]at hall;obtain rfl:r=true:=by
   rw[HN.out.2,kr,hall,<-HN.out.1,bfr HL2.out];rfl
  clear hall hlt;go_wp2_with(fail);go_ret;exact⟨rfl,rfl⟩
theorem JB(w:World)(x:bN)(hl:x.key.length<=1000000):
  Calls prog 37 #[.agg x.cells] w (bE w (.bool x.bB)):=by
 obtain⟨kind,key,time,value⟩:=x;obtain⟨r,hr⟩:=Nm ((bN.mk kind key time value).bB);rw[<-hr];have hN:=λw=>tJ w key hl;obtain⟨nb,hnb⟩:=Nm (kr key);rw[<-hnb]at hN;simp only[bN.bB]at hr;rw[<-hnb]at hr;have Tt:=Lh hN;clear hnb hN hl;unfold bN.cells;by_cases t0:time<0
 ·obtain rfl:r=false:=by rw[hr,bfq (by omega)];rfl
  clear hr;go_enter func37,ntmps37;go_wp2_with(fail);go_ret;exact⟨rfl,(Below.refl _ w).alloc (bfx _) _⟩
 by_cases t1:1099511627776<time
 ·obtain rfl:r=false:=by rw[hr,bfq (by omega)];rfl
  clear hr;go_enter func37,ntmps37;go_wp2_with(fail);go_ret;exact⟨rfl,(Below.refl _ w).alloc (bfx _) _⟩
 rw[bfr (show 0<=time/\time<=1099511627776 by omega),bgw]at hr
 by_cases k1:kind=1
 ·have e1:(kind==1)=true:=by rw[k1];rfl
  rw[if_neg (by omega),bfr k1,bgw]at hr
  clear k1
  cases nb with
  | false=>
   obtain rfl:r=false:=by rw[hr];rfl
   clear hr;go_enter func37,ntmps37;go_wp2_with(fail);refine(Tt.out _).mono ?_;rintro e w3 ⟨rfl,rfl⟩;dsimp only;go_wp2_with(fail);go_ret;exact⟨rfl,(Below.refl _ w).alloc (bfx _) _⟩
  | true=>
   by_cases h1: -1099511627776<=value
   ·have d1:decide ((-1099511627776:Int)<=value)=true:=bfr h1;by_cases h2:value<=1099511627776
    ·have d2:decide (value<=(1099511627776:Int))=true:=bfr h2;obtain rfl:r=true:=by rw[hr,bfr ⟨h1,h2⟩];rfl
     clear hr;go_enter func37,ntmps37;go_wp2_with(fail);refine(Tt.out _).mono ?_;rintro e w3 ⟨rfl,rfl⟩;dsimp only;go_wp2_with(fail);go_ret;exact⟨rfl,(Below.refl _ w).alloc (bfx _) _⟩
    have d2:decide (value<=(1099511627776:Int))=false:=bfq h2;obtain rfl:r=false:=by rw[hr,bfq (λh=>h2 h.2)];rfl
    clear hr;go_enter func37,ntmps37;go_wp2_with(fail);refine(Tt.out _).mono ?_;rintro e w3 ⟨rfl,rfl⟩;dsimp only;go_wp2_with(fail);go_ret;exact⟨rfl,(Below.refl _ w).alloc (bfx _) _⟩
   have d1:decide ((-1099511627776:Int)<=value)=false:=bfq h1;obtain rfl:r=false:=by rw[hr,bfq (λh=>h1 h.1)];rfl
   clear hr;go_enter func37,ntmps37;go_wp2_with(fail);refine(Tt.out _).mono ?_;rintro e w3 ⟨rfl,rfl⟩;dsimp only;go_wp2_with(fail);go_ret;exact⟨rfl,(Below.refl _ w).alloc (bfx _) _⟩
 have e1:(kind==1)=false:=by simpa using k1
 by_cases k2:kind=2
 ·have e2:(kind==2)=true:=by rw[k2];rfl
  rw[if_pos k2]at hr;clear k2;obtain⟨d,hd⟩:=Nm (decide (key=[]));have hkey:∀w,(binOp .eql 9 (Sv key) (.string ⟨#[]⟩)).run prog w=.ok (.bool d) w:=λw=>by rw[hd];exact sw w key
  obtain⟨v0,hv0⟩:=Nm (value==0);have hv:(value==0)=v0:=hv0.symm;have hr2:r=(d && v0):=by
   rw[hr,hd,hv0,Bool.eq_iff_iff];simp
  clear hr hd hv0 k1
  cases d with
  | true=>
   obtain rfl:r=v0:=by rw[hr2];rfl
   clear hr2
   cases r with
   | true=>
    go_enter func37,ntmps37;go_wp2_with(fail);go_ret;exact⟨rfl,(Below.refl _ w).alloc (bfx _) _⟩
   | false=>
    go_enter func37,ntmps37;go_wp2_with(fail);go_ret;exact⟨rfl,(Below.refl _ w).alloc (bfx _) _⟩
  | false=>
   obtain rfl:r=false:=by rw[hr2];rfl
   clear hr2;go_enter func37,ntmps37;go_wp2_with(fail);go_ret;exact⟨rfl,(Below.refl _ w).alloc (bfx _) _⟩
 have e2:(kind==2)=false:=by simpa using k2
 obtain rfl:r=false:=by rw[hr,if_neg k2,bfq k1];rfl
 clear hr k1 k2;go_enter func37,ntmps37;go_wp2_with(fail);go_ret;exact⟨rfl,(Below.refl _ w).alloc (bfx _) _⟩
end Go.Proofs.YtjeeghafachebaaGreat
