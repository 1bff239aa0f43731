/-
  11.
-/
import Derived.Test.YtjeeghafachebaaGreatU7
namespace Go.Proofs.YtjeeghafachebaaGreat
open Go Go.RowKit Ieee
theorem BC(x:Nat):double.read (x % 9223372036854775808)=match double.read x with | .number _ m i=> .number false m i | .infinity _=> .infinity false | .nan _ t=> .nan false t:=by
 unfold Format.read;simp only[sW,RY,lp,QV];have e1:(x % 9223372036854775808 / 9223372036854775808 % 2==1)=false:=by
  rw[Nat.div_eq_of_lt (Nat.mod_lt _ (by decide))]
  rfl
 rw[e1,Nat.mod_mod]
 generalize x % 9223372036854775808=r
 generalize (x / 9223372036854775808 % 2==1)=s
 by_cases h1:r<4503599627370496
 ·simp[h1]
 by_cases h2:r<9218868437227405312
 ·simp[h1,h2]
 by_cases h3:r=9218868437227405312
 ·simp[h3]
 simp[h1,h2,h3]
theorem NG(x:Nat):bits .andNot .u64 (x:Int) 9223372036854775808=((x % 9223372036854775808:Nat):Int):=by
 have e:BitVec.ofInt 64 (x:Int)=BitVec.ofNat 64 x:=by
  apply BitVec.eq_of_toNat_eq;simp
 have e1: ~~~ (BitVec.ofInt 64 9223372036854775808)=BitVec.ofNat 64 (2 ^ 63-1):=by decide+kernel
 show IntKind.u64.wrap ((BitVec.ofInt 64 (x:Int) &&& ~~~ BitVec.ofInt 64 9223372036854775808).toNat:Int)=_;rw[e,e1,BitVec.toNat_and,BitVec.toNat_ofNat,BitVec.toNat_ofNat,show(2 ^ 63-1) % 2 ^ 64=2 ^ 63-1 by decide,Nat.and_two_pow_sub_one_eq_mod,show x % 2 ^ 64 % 2 ^ 63=x % 9223372036854775808 by omega]
 simp[IntKind.wrap,IntKind.bits,IntKind.signed];omega
theorem Gq(neg:Bool)(n q M:Nat)(h:n<=M*2 ^ q):Toward.zero.cut neg n q<=M:=by
 unfold Toward.cut;obtain⟨g,hg⟩:=Nm (min q (n.log2+2));simp only[<-hg,Nat.shiftLeft_eq,Nat.one_mul];show n / 2 ^ g+0<=M;rcases Nat.lt_or_ge (n.log2+2) q with hb | hb
 ·have e:g=n.log2+2:=by omega
  have hlt:n<2 ^ g:=by
   rw[e];exact Nat.lt_of_lt_of_le Nat.lt_log2_self (Nat.pow_le_pow_right (by decide) (by omega))
  rw[Nat.div_eq_of_lt hlt];exact Nat.zero_le _
 have e:g=q:=by omega
 subst e;exact Nat.div_le_of_le_mul (by rw[Nat.mul_comm];exact h)
def kU(x:Nat):Nat:=double.write ((double.read x).integral .zero)
def vX(x:Nat):Nat:=x % 9223372036854775808
theorem NS {x:Nat} {n:Int}(h:jM x n):jM (vX x) n.natAbs:=by
 obtain⟨s,m,i,hr,hv⟩:=h;refine⟨false,m,i,by rw[vX,BC,hr],?_⟩
 have:=congrArg Int.natAbs hv;rw[Int.natAbs_mul,Int.natAbs_mul,FO,Int.natAbs_pow,Int.natAbs_pow]at this;simp only[sZ,Bool.false_eq_true,if_false];exact_mod_cast this
theorem y8 {x c1:Nat} {M:Nat}(hM2:M<9007199254740992)(k1:jM c1 (M:Int))(h1:(double.order (vX x) c1==some .lt || double.order (vX x) c1==some .eq)=true):
    (∃s m i,double.read x=.number s m i)/\∃n:Int,jM (kU x) n/\ -(M:Int)<=n/\n<=M/\((double.order x (kU x)==some .eq)=true↔jM x n)/\∀n',jM x n'->n'=n:=by
  obtain⟨o1,e1,g1⟩:=R5 _ _ _ h1;have Ak:∃s m i,double.read x=.number s m i:=by
    obtain⟨t',n',j',hr',_⟩:=k1;rw[Format.order,vX,BC,hr']at e1
    cases hd:double.read x with
    | number s m i=>exact⟨s,m,i,rfl⟩
    | infinity s=>
      exfalso
      rw[hd]at e1;simp only[Datum.order,Bool.false_eq_true,if_false,Option.some.injEq]at e1;rw[<-e1]at g1
      revert g1
      decide
    | nan s t=>
      exfalso
      rw[hd]at e1;simp[Datum.order]at e1
  refine⟨Ak,?_⟩;obtain⟨s,m,i,hd⟩:=Ak;rw[Format.order,vX,BC,hd]at e1
  rw[show(match Datum.number s m i with | .number _ m i=>Datum.number false m i | .infinity _=> .infinity false | .nan _ t=> .nan false t)=Datum.number false m i from rfl,Dk k1,Option.some.injEq]at e1
  rw[<-e1]at g1;have b1:=QR g1;have hN:m*2 ^ i.toNat<=M*2 ^ (-i).toNat:=by
    simp only[sZ,Bool.false_eq_true,if_false]at b1;exact_mod_cast b1
  obtain⟨K,hK⟩:=Nm (Toward.zero.cut s (m <<< i.toNat) (-i).toNat);have hKM:K<=M:=by rw[hK,Nat.shiftLeft_eq];exact Gq s _ _ M hN
  have hint:(double.read x).integral .zero=.number s K 0:=by rw[hd,Datum.integral,hK]
  have hval:Val ((double.read x).integral .zero) (sZ s K):=⟨s,K,0,hint,by simp⟩
  have habs:(sZ s K).natAbs=K:=FO s K;have hfl:jM (kU x) (sZ s K):=yf hval (by omega)
  refine⟨sZ s K,hfl,by omega,by omega,⟨λh=>?_,λh=>?_⟩,λn' h=>?_⟩
  · have h2:double.order x (kU x)=some .eq:=by simpa using h
    have h3:double.order (kU x) x=some .eq:=by
      rw[Format.order,hd]at h2;rw[Dk hfl,Option.some.injEq]at h2;obtain⟨t,n,j,hr,hw⟩:=hfl
      -- the other way round
      rw[Format.order,hr,hd];have h4:sZ s m*2 ^ i.toNat=sZ s K*2 ^ (-i).toNat:=by
        simp only[compare,compareOfLessAndEq]at h2
        split at h2
        · cases h2
        · split at h2
          · assumption
          · cases h2
      have hx:Val (Datum.number s m i) (sZ s K):=⟨s,m,i,rfl,h4⟩;have hy:Val (Datum.number t n j) (sZ s K):=⟨t,n,j,rfl,hw⟩;rw[Val.order hy hx];simp[compare,compareOfLessAndEq]
    exact Val.Rz hfl h3 ⟨s,m,i,hd⟩
  · rw[kE h hfl,cmp_eq];simp
  · obtain⟨s',hi',hz'⟩:=Val.integral h .zero;rw[hint]at hi';injection hi' with a1 a2 a3
    rw[<-hz',<-a1,<-a2]
end Go.Proofs.YtjeeghafachebaaGreat
