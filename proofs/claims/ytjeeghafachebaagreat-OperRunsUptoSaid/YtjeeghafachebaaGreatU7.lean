/-
  7.
-/
import Derived.WalkKit
import Derived.Laws.FloatArith
import Derived.Test.YtjeeghafachebaaGreatU0
namespace Go.Proofs.YtjeeghafachebaaGreat
open Go.RowKit Ieee
def sZ(s:Bool)(m:Nat):Int:=if s then -(m:Int)else (m:Int)
theorem qD(s:Bool)(m u:Nat):Ieee.signed s m u=sZ s m*2 ^ u:=by
 unfold Ieee.signed sZ;rw[Nat.shiftLeft_eq];cases s <;> simp[Int.neg_mul]
def Val(d:Datum)(n:Int):Prop:=∃s m i,d=.number s m i/\sZ s m*2 ^ i.toNat=n*2 ^ (-i).toNat
def jM(x:Nat)(n:Int):Prop:=Val (double.read x) n
theorem Val.scale {s:Bool} {m:Nat} {i n b:Int}(h:sZ s m*2 ^ i.toNat=n*2 ^ (-i).toNat)(h1:b<=i)(h2:b<=0):sZ s m*2 ^ (i-b).toNat=n*2 ^ (-b).toNat:=by
 obtain⟨k,hk⟩:∃k:Nat,(i - b).toNat=i.toNat+k/\(-b).toNat=(-i).toNat+k:=by
  rcases Int.le_total 0 i with hi | hi
  ·exact⟨(-b).toNat,by omega⟩
  exact⟨(i-b).toNat,by omega⟩
 rw[hk.1,hk.2,Int.pow_add,Int.pow_add,<-Int.mul_assoc,h,Int.mul_assoc]
theorem RY:double.binade=4503599627370496:=by decide
theorem lp:double.leastPlace=-1074:=by decide
theorem QV:double.infRung=9218868437227405312:=by decide
theorem sW:double.signWeight=9223372036854775808:=by decide
theorem DC(neg:Bool)(rung:Nat)(h:rung<9218868437227405312):
  double.read (double.word neg rung)=if rung<4503599627370496 then .number neg rung (-1074)else .number neg (4503599627370496+rung % 4503599627370496) (-1074+(rung / 4503599627370496-1:Nat)):=by
 have h1:(double.word neg rung / 9223372036854775808 % 2==1)=neg:=by
  cases neg
  ·simp only[Format.word,Bool.false_eq_true,if_false];simp;omega
  simp only[Format.word,if_true,sW];simp;omega
 have h2:double.word neg rung % 9223372036854775808=rung:=by
  cases neg
  ·simp only[Format.word,Bool.false_eq_true,if_false];omega
  simp only[Format.word,if_true,sW];omega
 unfold Format.read;simp only[sW,RY,lp,QV,h1,h2]
 split
 ·rfl
 first | rfl | rw[if_pos h]
theorem MH(neg:Bool)(D K:Nat)(hD:D<=52)(h1:4503599627370496<=K)(h2:K<9007199254740992):
  double.read (double.word neg ((D+1022)*4503599627370496+K))=.number neg K ((D:Int)-52):=by
 rw[DC neg _ (by omega),if_neg (by omega)]
 have a:4503599627370496+((D+1022)*4503599627370496+K) % 4503599627370496=K:=by omega
 have b:((D+1022)*4503599627370496+K) / 4503599627370496-1=D+1022:=by omega
 have c:(-1074:Int)+((D+1022:Nat):Int)=(D:Int)-52:=by omega
 rw[a,b,c]
theorem Fy {a b:Nat}(h:2 ^ a<2 ^ b):a<b:=(Nat.pow_lt_pow_iff_right (by decide)).1 h
theorem CS(neg:Bool)(n d:Nat)(hn:0<n)(h:2 ^ d ∣ n):Toward.even.cut neg n d=n / 2 ^ d:=by
 have hd:d<=n.log2:=by
  have h1:2 ^ d<=n:=Nat.le_of_dvd hn h;exact(Nat.le_log2 (by omega)).2 h1
 have hm:min d (n.log2+2)=d:=by omega
 have hr:n % 2 ^ d=0:=Nat.mod_eq_zero_of_dvd h;have hp:0<2 ^ d:=Nat.pow_pos (by decide)
 unfold Toward.cut;simp only[hm,Nat.shiftLeft_eq,Nat.one_mul,hr];simp
theorem JS(neg:Bool)(mag:Nat)(place:Int)(h0:¬mag=0)(last:Int)(hlast:max (place+mag.log2-double.fractionBits) double.leastPlace=last)(K:Nat)
  (hk:Toward.even.cut neg (mag <<< (place-last).toNat) (last-place).toNat=K) (R:Nat) (hR:(last-double.leastPlace).toNat*double.binade+K=R) (hmin:min R double.infRung=R):
  double.nearest neg mag place=double.word neg R:=by
 unfold Format.nearest;rw[if_neg h0];simp only[hlast,hk,hR,hmin]
theorem GM(neg:Bool)(mag:Nat)(place:Int)(N:Nat)(h:mag*2 ^ place.toNat=N*2 ^ (-place).toNat)(hN:N<9007199254740992):
    ∃m i,double.read (double.nearest neg mag place)=.number neg m i/\m*2 ^ i.toNat=N*2 ^ (-i).toNat:=by
  by_cases h0:mag=0
  · subst h0;have hN0:N=0:=by
      rw[Nat.zero_mul]at h;rcases Nat.mul_eq_zero.1 h.symm with e | e
      · exact e
      · exact absurd e (Nat.ne_of_gt (Nat.pow_pos (by decide)))
    subst hN0;refine⟨0,-1074,?_,by rw[Nat.zero_mul,Nat.zero_mul]⟩
    unfold Format.nearest;rw[if_pos rfl,DC neg 0 (by decide),if_pos (by decide)]
  · have Ah:0<mag:=by omega
    obtain⟨L,hL⟩:=Nm (mag.log2);have hl1:2 ^ L<=mag:=by rw[hL];exact Nat.log2_self_le h0
    have hl2:mag<2 ^ (L+1):=by rw[hL];exact Nat.lt_log2_self
    -- the number's own greatest place
    obtain⟨D,hD⟩:∃D:Nat,(D:Int)=place+L/\D<=52/\2 ^ D<=N/\N<2 ^ (D+1):=by
      rcases Int.le_total 0 place with hp | hp
      · obtain⟨p,rfl⟩:=Int.eq_ofNat_of_zero_le hp;simp only[Int.toNat_natCast,Int.toNat_neg_natCast,Nat.pow_zero,Nat.mul_one]at h;have k1:2 ^ (p+L)<=N:=by rw[<-h,Nat.add_comm,Nat.pow_add];exact Nat.mul_le_mul_right _ hl1
        have k2:N<2 ^ (p+L+1):=by rw[<-h,show p+L+1=L+1+p by omega,Nat.pow_add];exact Nat.mul_lt_mul_of_pos_right hl2 (Nat.pow_pos (by decide))
        have k3:p+L<53:=Fy (Nat.lt_of_le_of_lt k1 hN);exact⟨p+L,by simp,by omega,k1,k2⟩
      · obtain⟨q,rfl⟩:=Int.exists_eq_neg_ofNat hp;simp only[Int.neg_neg,Int.toNat_natCast,Int.toNat_neg_natCast,Nat.pow_zero,Nat.mul_one]at h;have hN1:0<N:=by
          rcases Nat.eq_zero_or_pos N with e | e
          · subst e;simp at h;omega
          · exact e
        have k0:q<=L:=by
          have:2 ^ q<=mag:=by rw[h];exact Nat.le_mul_of_pos_left _ hN1
          have:=Fy (Nat.lt_of_le_of_lt this hl2);omega
        have e:2 ^ L=2 ^ (L-q)*2 ^ q:=by rw[<-Nat.pow_add];congr 1;omega
        have e2:2 ^ (L+1)=2 ^ (L-q+1)*2 ^ q:=by rw[<-Nat.pow_add];congr 1;omega
        have hq0:0<2 ^ q:=Nat.pow_pos (by decide)
        have k1:2 ^ (L-q)<=N:=by
          rw[h,e]at hl1;exact Nat.le_of_mul_le_mul_right hl1 hq0
        have k2:N<2 ^ (L-q+1):=by
          rw[h,e2]at hl2;exact Nat.lt_of_mul_lt_mul_right hl2
        have k3:L-q<53:=Fy (Nat.lt_of_le_of_lt k1 hN);exact⟨L-q,by omega,by omega,k1,k2⟩
    obtain⟨hDp,Ov,hN1,hN2⟩:=hD;have hlast:max (place+(L:Int)-52) (-1074)=(D:Int)-52:=by omega
    have hkept:Toward.even.cut neg (mag <<< (place-((D:Int)-52)).toNat) (((D:Int)-52)-place).toNat=N*2 ^ (52-D):=by
      rcases Nat.lt_or_ge 52 L with hbig | hsm
      · have e1:(place-((D:Int)-52)).toNat=0:=by omega
        have e2:(((D:Int)-52)-place).toNat=L-52:=by omega
        have hp:place<0:=by omega
        obtain⟨q,rfl⟩:=Int.exists_eq_neg_ofNat (Int.le_of_lt hp);simp only[Int.neg_neg,Int.toNat_natCast,Int.toNat_neg_natCast,Nat.pow_zero,Nat.mul_one]at h;have e3:2 ^ q=2 ^ (52-D)*2 ^ (L-52):=by rw[<-Nat.pow_add];congr 1;omega
        have hdv:mag=N*2 ^ (52-D)*2 ^ (L-52):=by rw[h,e3,Nat.mul_assoc]
        rw[e1,e2,Nat.shiftLeft_zero,CS neg mag (L-52) Ah ⟨N*2 ^ (52-D),by rw[hdv];exact Nat.mul_comm _ _⟩]
        rw[hdv];exact Nat.mul_div_cancel _ (Nat.pow_pos (by decide))
      · have e1:(place-((D:Int)-52)).toNat=52-L:=by omega
        have e2:(((D:Int)-52)-place).toNat=0:=by omega
        rw[e1,e2,CS neg _ 0 (by rw[Nat.shiftLeft_eq];exact Nat.mul_pos Ah (Nat.pow_pos (by decide))) ⟨_,(Nat.one_mul _).symm⟩,Nat.pow_zero,Nat.div_one,Nat.shiftLeft_eq]
        rcases Int.le_total 0 place with hp | hp
        · obtain⟨p,rfl⟩:=Int.eq_ofNat_of_zero_le hp;simp only[Int.toNat_natCast,Int.toNat_neg_natCast,Nat.pow_zero,Nat.mul_one]at h;rw[<-h,Nat.mul_assoc,<-Nat.pow_add]
          congr 2
          omega
        · obtain⟨q,rfl⟩:=Int.exists_eq_neg_ofNat hp;simp only[Int.neg_neg,Int.toNat_natCast,Int.toNat_neg_natCast,Nat.pow_zero,Nat.mul_one]at h;rw[h,Nat.mul_assoc,<-Nat.pow_add]
          congr 2
          omega
    obtain⟨K,hK⟩:=Nm (N*2 ^ (52 - D));have hK1:4503599627370496<=K:=by
      have:2 ^ D*2 ^ (52-D)<=K:=by rw[hK];exact Nat.mul_le_mul_right _ hN1
      rw[<-Nat.pow_add,show D+(52-D)=52 by omega]at this
      exact this
    have hK2:K<9007199254740992:=by
      have:K<2 ^ (D+1)*2 ^ (52-D):=by rw[hK];exact Nat.mul_lt_mul_of_pos_right hN2 (Nat.pow_pos (by decide))
      rw[<-Nat.pow_add,show D+1+(52-D)=53 by omega]at this
      exact this
    refine⟨K,(D:Int)-52,?_,?_⟩
    · have Zi:(double.fractionBits:Int)=52:=rfl;have e3:((D:Int)-52-(-1074)).toNat=D+1022:=by omega
      have e4:(D+1022)*4503599627370496+K<=9218868437227405312:=by omega
      have hR:((D:Int)-52-double.leastPlace).toNat*double.binade+K=(D+1022)*4503599627370496+K:=by
        have:∀a b:Nat,((D:Int)-52-double.leastPlace).toNat=a->double.binade=b->((D:Int)-52-double.leastPlace).toNat*double.binade+K=a*b+K:=λa b h1 h2=>by rw[h1,h2]
        exact this _ _ (by rw[lp];exact e3) RY
      rw[JS neg mag place h0 ((D:Int)-52) (by rw[Zi,lp,<-hL];exact hlast) K (by rw[hK];exact hkept) _ hR (by rw[QV];exact Nat.min_eq_left e4)]
      exact MH neg D K Ov hK1 hK2
    · rw[show((D:Int)-52).toNat=0 by omega,show(-((D:Int)-52)).toNat=52-D by omega,Nat.pow_zero,Nat.mul_one,hK]
theorem FO(s:Bool)(m:Nat):(sZ s m).natAbs=m:=by cases s <;> simp[sZ]
theorem yf {d:Datum} {n:Int}(h:Val d n)(hn:n.natAbs<9007199254740992):jM (double.write d) n:=by
 obtain⟨s,m,i,rfl,hv⟩:=h;have ha:m*2 ^ i.toNat=n.natAbs*2 ^ (-i).toNat:=by
  have:=congrArg Int.natAbs hv;rw[Int.natAbs_mul,Int.natAbs_mul,FO,Int.natAbs_pow,Int.natAbs_pow]at this;exact this
 obtain⟨m',i',hr,hv'⟩:=GM s m i n.natAbs ha hn;refine⟨s,m',i',hr,?_⟩;by_cases h0:n=0
 ·subst h0;have:m'=0:=by
   rw[Int.natAbs_zero,Nat.zero_mul]at hv';rcases Nat.mul_eq_zero.1 hv' with e | e
   ·exact e
   exact absurd e (Nat.ne_of_gt (Nat.pow_pos (by decide)))
  subst this;cases s <;> simp[sZ]
 have hs:n=sZ s n.natAbs:=by
  have hp1:(0:Int)<2 ^ i.toNat:=Int.pow_pos (by decide)
  have hp2:(0:Int)<2 ^ (-i).toNat:=Int.pow_pos (by decide)
  cases s with
  | true=>
   simp only[sZ,if_true]at hv ⊢;have:n<=0:=by
    rcases Int.le_total n 0 with e | e
    ·exact e
    have h1:0<n*2 ^ (-i).toNat:=Int.mul_pos (by omega) hp2
    have h2: -(m:Int)*2 ^ i.toNat<=0:=by
     rw[Int.neg_mul];have:=Int.mul_nonneg (show(0:Int)<=m by omega) (Int.le_of_lt hp1)
     omega
    omega
   omega
  | false=>
   simp only[sZ,Bool.false_eq_true,if_false]at hv ⊢;have:0<=n:=by
    rcases Int.le_total 0 n with e | e
    ·exact e
    have h1:0 < -n*2 ^ (-i).toNat:=Int.mul_pos (by omega) hp2
    rw[Int.neg_mul]at h1;have:=Int.mul_nonneg (show(0:Int)<=m by omega) (Int.le_of_lt hp1)
    omega
   omega
 have hc:(m':Int)*2 ^ i'.toNat=(n.natAbs:Int)*2 ^ (-i').toNat:=by exact_mod_cast hv'
 rw[hs];cases s
 ·simpa[sZ]using hc
 simp only[sZ,if_true,Int.neg_mul,hc]
theorem Val.Qg {s:Bool} {m:Nat} {i n b:Int}(h1:b<=i)(h2:b<=0)(h:sZ s m*2 ^ (i-b).toNat=n*2 ^ (-b).toNat):sZ s m*2 ^ i.toNat=n*2 ^ (-i).toNat:=by
 obtain⟨k,hk⟩:∃k:Nat,(i - b).toNat=i.toNat+k/\(-b).toNat=(-i).toNat+k:=by
  rcases Int.le_total 0 i with hi | hi
  ·exact⟨(-b).toNat,by omega⟩
  exact⟨(i-b).toNat,by omega⟩
 rw[hk.1,hk.2,Int.pow_add,Int.pow_add,<-Int.mul_assoc,<-Int.mul_assoc]at h;exact Int.eq_of_mul_eq_mul_right (Int.ne_of_gt (Int.pow_pos (by decide))) h
theorem Val.sum {d e:Datum} {a b:Int}(h:Val d a)(k:Val e b):∃r,d.sum e=some r/\Val r (a+b):=by
 obtain⟨s,m,i,rfl,hv⟩:=h;obtain⟨t,n,j,rfl,hw⟩:=k;obtain⟨B,hB⟩:=Nm (min i j);obtain⟨T,hT⟩:=Nm (sZ s m*2 ^ (i - B).toNat+sZ t n*2 ^ (j - B).toNat);refine⟨.number (if T=0 then s && t else T<0) T.natAbs B,?_,?_⟩
 ·simp only[Datum.sum,qD,<-hB,<-hT]
 refine⟨_,_,_,rfl,?_⟩;have hs:sZ (if T=0 then s && t else decide (T<0)) T.natAbs=T:=by
  by_cases h0:T=0
  ·rw[h0];simp[sZ]
  rw[if_neg h0];by_cases h1:T<0
  ·simp only[h1,decide_true,sZ,if_true];omega
  simp only[h1,decide_false,sZ,Bool.false_eq_true,if_false];omega
 rw[hs];obtain⟨C,hC⟩:=Nm (min B 0);have h1:=Val.scale (b:=C) hv (by omega) (by omega)
 have h2:=Val.scale (b:=C) hw (by omega) (by omega)
 have e1:(i-C).toNat=(i-B).toNat+(B-C).toNat:=by omega
 have e2:(j-C).toNat=(j-B).toNat+(B-C).toNat:=by omega
 rw[e1,Int.pow_add,<-Int.mul_assoc]at h1;rw[e2,Int.pow_add,<-Int.mul_assoc]at h2;have hsum:T*2 ^ (B-C).toNat=(a+b)*2 ^ (-C).toNat:=by rw[hT,Int.add_mul,Int.add_mul,h1,h2]
 rcases Int.le_total B 0 with hb | hb
 ·have:C=B:=by omega
  subst this;rw[show C.toNat=0 by omega]
  simpa using hsum
 have:C=0:=by omega
 subst this;rw[show(-B).toNat=0 by omega]
 simpa using hsum
theorem tF(a b:Int)(k:Nat):compare (a*2 ^ k) (b*2 ^ k)=compare a b:=by
 have hp:(0:Int)<2 ^ k:=Int.pow_pos (by decide)
 simp only[compare,compareOfLessAndEq,Int.mul_lt_mul_right hp,Int.mul_eq_mul_right_iff (Int.ne_of_gt hp)]
theorem Val.order {d e:Datum} {a b:Int}(h:Val d a)(k:Val e b):d.order e=some (compare a b):=by
 obtain⟨s,m,i,rfl,hv⟩:=h;obtain⟨t,n,j,rfl,hw⟩:=k;obtain⟨B,hB⟩:=Nm (min i j);obtain⟨C,hC⟩:=Nm (min B 0);have h1:=Val.scale (b:=C) hv (by omega) (by omega)
 have h2:=Val.scale (b:=C) hw (by omega) (by omega)
 have e1:(i-C).toNat=(i-B).toNat+(B-C).toNat:=by omega
 have e2:(j-C).toNat=(j-B).toNat+(B-C).toNat:=by omega
 rw[e1,Int.pow_add,<-Int.mul_assoc]at h1;rw[e2,Int.pow_add,<-Int.mul_assoc]at h2;simp only[Datum.order,qD,<-hB];rw[<-tF _ _ (B-C).toNat,h1,h2,tF]
theorem Val.Rz {d e:Datum} {a:Int}(h:Val d a)(k:d.order e=some .eq)(hn:∃t n j,e=.number t n j):Val e a:=by
 obtain⟨s,m,i,rfl,hv⟩:=h;obtain⟨t,n,j,rfl⟩:=hn;obtain⟨B,hB⟩:=Nm (min i j);simp only[Datum.order,qD,<-hB,Option.some.injEq]at k;have k':sZ s m*2 ^ (i-B).toNat=sZ t n*2 ^ (j-B).toNat:=by
  simp only[compare,compareOfLessAndEq]at k
  split at k
  ·cases k
  split at k
  ·assumption
  cases k
 obtain⟨C,hC⟩:=Nm (min B 0);have h1:=Val.scale (b:=C) hv (by omega) (by omega)
 have e1:(i-C).toNat=(i-B).toNat+(B-C).toNat:=by omega
 have e2:(j-C).toNat=(j-B).toNat+(B-C).toNat:=by omega
 refine⟨t,n,j,rfl,Val.Qg (b:=C) (by omega) (by omega) ?_⟩
 rw[e1,Int.pow_add,<-Int.mul_assoc,k',Int.mul_assoc,<-Int.pow_add,<-e2]at h1;exact h1
end Go.Proofs.YtjeeghafachebaaGreat
namespace Go.Proofs.YtjeeghafachebaaGreat
open Go Go.RowKit Ieee
def F4(n:Int):Nat:=FloatKind.f64.nearest n
theorem wG(n:Int)(h:n.natAbs<9007199254740992):jM (F4 n) n:=by
 refine yf (d:=.number (decide (n<0)) n.natAbs 0) ⟨_,_,_,rfl,?_⟩ h;by_cases h0:n<0
 ·simp[sZ,h0];omega
 simp[sZ,h0];omega
section
variable {P : Program} {x y : Nat} {a b : Int} (w : World) (t : TypeId)
theorem Gt(h:jM x a)(k:jM y b)(hb:(a+b).natAbs<9007199254740992):∃r,double.add x y=some r/\jM r (a+b):=by
 obtain⟨d,hd,hv⟩:=h.sum k;exact⟨_,by rw[Format.add,hd];rfl,yf hv hb⟩
theorem kE(h:jM x a)(k:jM y b):double.order x y=some (compare a b):=Val.order h k
theorem cmp_eq(a b:Int):(some (compare a b)==some Ordering.eq)=decide (a=b):=by
 simp only[compare,compareOfLessAndEq];by_cases h1:a<b
 ·rw[if_pos h1];simp;omega
 rw[if_neg h1];by_cases h2:a=b
 ·rw[if_pos h2];simp[h2]
 rw[if_neg h2];simp[h2]
theorem QS(a b:Int):(some (compare a b)==some Ordering.lt)=decide (a<b):=by
 simp only[compare,compareOfLessAndEq];by_cases h1:a<b
 ·rw[if_pos h1];simp[h1]
 rw[if_neg h1];by_cases h2:a=b
 ·rw[if_pos h2];simp[h2]
 rw[if_neg h2];simp;omega
theorem QQ(a b:Int):(some (compare a b)==some Ordering.gt)=decide (b<a):=by
 simp only[compare,compareOfLessAndEq];by_cases h1:a<b
 ·rw[if_pos h1];simp;omega
 rw[if_neg h1];by_cases h2:a=b
 ·rw[if_pos h2];simp[h2]
 rw[if_neg h2];simp;omega
theorem Px(h:jM x a)(k:jM y b):(binOp .eql t (.float .f64 x) (.float .f64 y)).run P w=.ok (.bool (decide (a=b))) w:=by
 show Result.ok (Value.bool (double.order x y==some .eq)) w=_;rw[kE h k,cmp_eq]
theorem BI(h:jM x a)(k:jM y b):(binOp .leq t (.float .f64 x) (.float .f64 y)).run P w=.ok (.bool (decide (a<=b))) w:=by
 show Result.ok (Value.bool (double.order x y==some .lt || double.order x y==some .eq)) w=_
 rw[kE h k,QS,cmp_eq]
 congr 2
 rw[Bool.eq_iff_iff];simp;omega
theorem He(h:jM x a)(k:jM y b):(binOp .geq t (.float .f64 x) (.float .f64 y)).run P w=.ok (.bool (decide (b<=a))) w:=by
 show Result.ok (Value.bool (double.order x y==some .gt || double.order x y==some .eq)) w=_
 rw[kE h k,QQ,cmp_eq]
 congr 2
 rw[Bool.eq_iff_iff];simp;omega
theorem LF(way:Toward)(neg:Bool)(n d:Nat)(hn:0<n)(h:2 ^ d ∣ n):way.cut neg n d=n / 2 ^ d:=by
 have hd:d<=n.log2:=by
  have h1:2 ^ d<=n:=Nat.le_of_dvd hn h;exact(Nat.le_log2 (by omega)).2 h1
 have hm:min d (n.log2+2)=d:=by omega
 have hr:n % 2 ^ d=0:=Nat.mod_eq_zero_of_dvd h;unfold Toward.cut;simp only[hm,Nat.shiftLeft_eq,Nat.one_mul,hr];cases way <;> simp
theorem Jw(way:Toward)(neg:Bool)(d:Nat):way.cut neg 0 d=0:=by
 unfold Toward.cut;have hp:0<1 <<< min d ((0:Nat).log2+2):=by rw[Nat.shiftLeft_eq,Nat.one_mul];exact Nat.pow_pos (by decide)
 simp only[Nat.zero_div,Nat.zero_mod];cases way <;> simp
theorem Val.integral {d:Datum} {n:Int}(h:Val d n)(way:Toward):∃s,d.integral way=.number s n.natAbs 0/\sZ s n.natAbs=n:=by
 obtain⟨s,m,i,rfl,hv⟩:=h;have ha:m*2 ^ i.toNat=n.natAbs*2 ^ (-i).toNat:=by
  have:=congrArg Int.natAbs hv;rw[Int.natAbs_mul,Int.natAbs_mul,FO,Int.natAbs_pow,Int.natAbs_pow]at this;exact this
 have hp:0<2 ^ (-i).toNat:=Nat.pow_pos (by decide)
 have hp2:0<2 ^ i.toNat:=Nat.pow_pos (by decide)
 have hc:way.cut s (m <<< i.toNat) (-i).toNat=n.natAbs:=by
  rw[Nat.shiftLeft_eq,ha];rcases Nat.eq_zero_or_pos n.natAbs with e | e
  ·rw[e,Nat.zero_mul,Jw]
  rw[LF way s _ _ (Nat.mul_pos e hp) ⟨n.natAbs,Nat.mul_comm _ _⟩,Nat.mul_div_cancel _ hp]
 refine⟨s,by rw[Datum.integral,hc],?_⟩
 have hq1:(0:Int)<2 ^ i.toNat:=Int.pow_pos (by decide)
 have hq2:(0:Int)<2 ^ (-i).toNat:=Int.pow_pos (by decide)
 have hz:sZ s n.natAbs*2 ^ (-i).toNat=n*2 ^ (-i).toNat:=by
  rw[<-hv];have hcast:(m:Int)*2 ^ i.toNat=(n.natAbs:Int)*2 ^ (-i).toNat:=by exact_mod_cast ha
  cases s
  ·simp only[sZ,Bool.false_eq_true,if_false,hcast]
  simp only[sZ,if_true,Int.neg_mul,hcast]
 exact Int.eq_of_mul_eq_mul_right (Int.ne_of_gt hq2) hz
theorem gP {src dst:TypeId} {k:IntKind}(hs:(P.underlying src).isSome=true)(hd:P.underlying dst=some (.int k))(h:jM x a)(h1:k.min<=a)(h2:a<=k.max):
  (convert src dst (.float .f64 x)).run P w=.ok (.int k a) w:=by
 refine run_convert_float_int w src dst .f64 k x a hs hd ?_;obtain⟨s,hi,hz⟩:=Val.integral h .zero;have ht:(FloatKind.f64.decode x).toInt .zero=some a:=by
  show(double.read x).toInt .zero=some a;rw[Datum.toInt,hi];simp only[qD];rw[hz,Int.pow_zero,Int.mul_one]
 unfold floatToIntVal;rw[ht];simp only[h1,h2,and_self,if_true]
theorem jP {src dst:TypeId} {k:IntKind}(hs:P.underlying src=some (.int k))(hd:P.underlying dst=some (.float .f64)):(convert src dst (.int k a)).run P w=.ok (.float .f64 (F4 a)) w:=by
 simp[convert,run_underlying hs,run_underlying hd,Conv.intToFloat,F4]
theorem Pw {x2 y2:Nat} {a2 b2:Int}(h:jM x a)(k:jM y b)(h2:jM x2 a2)(k2:jM y2 b2):
  (binOp .eql t (.complex .f64 x x2) (.complex .f64 y y2)).run P w=.ok (.bool (decide (a=b/\a2=b2))) w:=by
 have e1:(Op.Complex.cmp .eql .f64 x y).run P w=.ok (decide (a=b)) w:=by
  show Result.ok (double.order x y==some .eq) w=_;rw[kE h k,cmp_eq]
 have e2:(Op.Complex.cmp .eql .f64 x2 y2).run P w=.ok (decide (a2=b2)) w:=by
  show Result.ok (double.order x2 y2==some .eq) w=_;rw[kE h2 k2,cmp_eq]
 show(Op.complexOp .eql .f64 x x2 y y2).run P w=_;simp only[Op.complexOp,Sem.run_bind,e1,e2,Result.andThen_ok];simp
theorem BF {x2 y2:Nat} {a2 b2:Int}(h:jM x a)(k:jM y b)(h2:jM x2 a2)(k2:jM y2 b2)(hb:(a+b).natAbs<9007199254740992)(hb2:(a2+b2).natAbs<9007199254740992):
  ∃r r2,jM r (a+b)/\jM r2 (a2+b2)/\∀w,(binOp .add t (.complex .f64 x x2) (.complex .f64 y y2)).run P w=.ok (.complex .f64 r r2) w:=by
 obtain⟨r,hr,hf⟩:=Gt h k hb;obtain⟨r2,hr2,hf2⟩:=Gt h2 k2 hb2;refine⟨r,r2,hf,hf2,λw=>?_⟩;have e1:(Op.Complex.arith .add .f64 x y).run P w=.ok r w:=by simp[Op.Complex.arith,Op.floatArith,FloatKind.format,hr]
 have e2:(Op.Complex.arith .add .f64 x2 y2).run P w=.ok r2 w:=by simp[Op.Complex.arith,Op.floatArith,FloatKind.format,hr2]
 show(Op.complexOp .add .f64 x x2 y y2).run P w=_;simp only[Op.complexOp,Sem.run_bind,e1,e2,Result.andThen_ok];simp
end
theorem Dk {s:Bool} {m:Nat} {i:Int} {e:Datum} {c:Int}(k:Val e c):(Datum.number s m i).order e=some (compare (sZ s m*2 ^ i.toNat) (c*2 ^ (-i).toNat)):=by
  obtain⟨t,n,j,rfl,hw⟩:=k;obtain⟨B,hB⟩:=Nm (min i j);obtain⟨C,hC⟩:=Nm (min B 0);have h2:=Val.scale (b:=C) hw (by omega) (by omega)
  have e1:(i-C).toNat=(i-B).toNat+(B-C).toNat:=by omega
  have e2:(j-C).toNat=(j-B).toNat+(B-C).toNat:=by omega
  rw[e2,Int.pow_add,<-Int.mul_assoc]at h2;simp only[Datum.order,qD,<-hB];rw[<-tF _ _ (B-C).toNat,h2]
  -- both sides once more, by what the number's own place leaves
  obtain⟨q,hq⟩:∃q:Nat,(i - C).toNat=i.toNat+q/\(-C).toNat=(-i).toNat+q:=by
    rcases Int.le_total 0 i with hi | hi
    · exact⟨(-C).toNat,by omega⟩
    · exact⟨(i-C).toNat,by omega⟩
  rw[Int.mul_assoc,<-Int.pow_add,<-e1,hq.1,hq.2,Int.pow_add,Int.pow_add,<-Int.mul_assoc,<-Int.mul_assoc,tF]
theorem QR {a b:Int}(h:(compare a b==Ordering.lt || compare a b==Ordering.eq)=true):a<=b:=by
 rcases Int.lt_trichotomy a b with hl | hl | hl
 ·omega
 ·omega
 exfalso
 have e:compare a b=.gt:=by
  simp only[compare,compareOfLessAndEq];rw[if_neg (by omega),if_neg (by omega)]
 rw[e]at h
 revert h
 decide
theorem R5(o:Option Ordering)(a b:Ordering)(h:(o==some a || o==some b)=true):∃c,o=some c/\(c==a || c==b)=true:=by
 cases o with
 | none=>cases a <;> cases b <;> revert h <;> decide
 | some c=>exact⟨c,rfl,by simpa using h⟩
end Go.Proofs.YtjeeghafachebaaGreat
namespace Go.Proofs.YtjeeghafachebaaGreat
open Go.RowKit
def mr(re im:Int):Prop:=-1073741824<=re/\re<=1073741824/\ -1073741824<=im/\im<=1073741824
instance (re im:Int):Decidable (mr re im):=by unfold mr;exact inferInstance
def zF(x:Nat):Prop:=∃n:Int,-1073741824<=n/\n<=1073741824/\jM x n
def kZ(q:Int):Int × Int:=if q % 4=0 then (1,0)else if q % 4=1 then (0,1)else if q % 4=2 then (-1,0)else (0,-1)
def qE:Nat->Int × Int
 | 0=>(1,0)
 | k+1=>((qE k).1*0-(qE k).2*1,(qE k).1*1+(qE k).2*0)
theorem PK(q:Int)(k:Nat)(h:(k:Int)=q % 4):qE k=kZ q:=by
 have hk:k=0∨k=1∨k=2∨k=3:=by omega
 unfold kZ;rcases hk with rfl | rfl | rfl | rfl
 ·rw[if_pos (by omega)];rfl
 ·rw[if_neg (by omega),if_pos (by omega)];rfl
 ·rw[if_neg (by omega),if_neg (by omega),if_pos (by omega)];rfl
 rw[if_neg (by omega),if_neg (by omega),if_neg (by omega)];rfl
theorem PI(k:Nat):∀n,n=qE k-> -1<=n.1/\n.1<=1/\ -1<=n.2/\n.2<=1:=by
 induction k with
 | zero=>rintro n rfl;decide
 | succ k ih=>
  rintro n rfl;have:=ih _ rfl;simp only[qE];omega
theorem zu {a b A B:Int}(ha: -A<=a/\a<=A)(hb: -B<=b/\b<=B): -(A*B)<=a*b/\a*b<=A*B:=by
 have hA:0<=A:=by omega
 have hB:0<=B:=by omega
 have h:(a*b).natAbs<=(A*B).natAbs:=by
  rw[Int.natAbs_mul,Int.natAbs_mul];exact Nat.mul_le_mul (by omega) (by omega)
 have hp:0<=A*B:=Int.mul_nonneg hA hB;omega
end Go.Proofs.YtjeeghafachebaaGreat
