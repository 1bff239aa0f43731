/- 9. -/
import Derived.WalkKit
import Derived.Laws.FloatArith
import Derived.Test.YtgfmbkoieacgoaaGreatDoorW0
namespace Go.Proofs.YtgfmbkoieacgoaaGreatDoor
open Go.RowKit Ieee
def sZ(s:Bool)(m:Nat):Int:=if s then -(m:Int)else (m:Int)
theorem qg(s:Bool)(m u:Nat):Ieee.signed s m u=sZ s m*2 ^ u:=by
 unfold Ieee.signed sZ;rw[Nat.shiftLeft_eq];cases s <;> simp[Int.neg_mul]
def Val(d:Datum)(n:Int):Prop:=∃s m i,d=.number s m i/\sZ s m*2 ^ i.toNat=n*2 ^ (-i).toNat
def jT(x:Nat)(n:Int):Prop:=Val (double.read x) n
theorem Val.scale {s:Bool} {m:Nat} {i n b:Int}(h:sZ s m*2 ^ i.toNat=n*2 ^ (-i).toNat)(d:b<=i)(e:b<=0):sZ s m*2 ^ (i-b).toNat=n*2 ^ (-b).toNat:=by
 obtain⟨k,a⟩:∃k:Nat,(i - b).toNat=i.toNat+k/\(-b).toNat=(-i).toNat+k:=by
  rcases Int.le_total 0 i with c | c
  ·exact⟨(-b).toNat,by omega⟩
  exact⟨(i-b).toNat,by omega⟩
 rw[a.1,a.2,Int.pow_add,Int.pow_add,<-Int.mul_assoc,h,Int.mul_assoc]
theorem XA:double.binade=4503599627370496:=by decide
theorem lp:double.leastPlace=-1074:=by decide
theorem WI:double.infRung=9218868437227405312:=by decide
theorem sW:double.signWeight=9223372036854775808:=by decide
theorem Fe(neg:Bool)(a:Nat)(h:a<9218868437227405312):
  double.read (double.word neg a)=if a<4503599627370496 then .number neg a (-1074)else .number neg (4503599627370496+a % 4503599627370496) (-1074+(a / 4503599627370496-1:Nat)):=by
 have b:(double.word neg a / 9223372036854775808 % 2==1)=neg:=by
  cases neg
  ·simp only[Format.word,Bool.false_eq_true,if_false];simp;omega
  simp only[Format.word,if_true,sW];simp;omega
 have c:double.word neg a % 9223372036854775808=a:=by
  cases neg
  ·simp only[Format.word,Bool.false_eq_true,if_false];omega
  simp only[Format.word,if_true,sW];omega
 unfold Format.read;simp only[sW,XA,lp,WI,b,c]
 split
 ·rfl
 first | rfl | rw[if_pos h]
theorem Q9(neg:Bool)(D K:Nat)(d:D<=52)(e:4503599627370496<=K)(h:K<9007199254740992):
  double.read (double.word neg ((D+1022)*4503599627370496+K))=.number neg K ((D:Int)-52):=by
 rw[Fe neg _ (by omega),if_neg (by omega)]
 have a:4503599627370496+((D+1022)*4503599627370496+K) % 4503599627370496=K:=by omega
 have b:((D+1022)*4503599627370496+K) / 4503599627370496-1=D+1022:=by omega
 have c:(-1074:Int)+((D+1022:Nat):Int)=(D:Int)-52:=by omega
 rw[a,b,c]
theorem Gm {a b:Nat}(h:2 ^ a<2 ^ b):a<b:=(Nat.pow_lt_pow_iff_right (by decide)).1 h
theorem Dq(neg:Bool)(n d:Nat)(a:0<n)(h:2 ^ d ∣ n):Toward.even.cut neg n d=n / 2 ^ d:=by
 have j:d<=n.log2:=by
  have b:2 ^ d<=n:=Nat.le_of_dvd a h;exact(Nat.le_log2 (by omega)).2 b
 have c:min d (n.log2+2)=d:=by omega
 have e:n % 2 ^ d=0:=Nat.mod_eq_zero_of_dvd h;have k:0<2 ^ d:=Nat.pow_pos (by decide)
 unfold Toward.cut;simp only[c,Nat.shiftLeft_eq,Nat.one_mul,e];simp
theorem MF(neg:Bool)(a:Nat)(place:Int)(d:¬a=0)(last:Int)(b:max (place+a.log2-double.fractionBits) double.leastPlace=last)(K:Nat)
  (e:Toward.even.cut neg (a <<< (place-last).toNat) (last-place).toNat=K) (R:Nat) (h:(last-double.leastPlace).toNat*double.binade+K=R) (c:min R double.infRung=R):
  double.nearest neg a place=double.word neg R:=by
 unfold Format.nearest;rw[if_neg d];simp only[b,e,h,c]
theorem JF(neg:Bool)(c:Nat)(place:Int)(N:Nat)(h:c*2 ^ place.toNat=N*2 ^ (-place).toNat)(Y:N<9007199254740992):
    ∃m i,double.read (double.nearest neg c place)=.number neg m i/\m*2 ^ i.toNat=N*2 ^ (-i).toNat:=by
  by_cases z:c=0
  · subst z;have E:N=0:=by
      rw[Nat.zero_mul]at h;rcases Nat.mul_eq_zero.1 h.symm with e | e
      · exact e
      · exact absurd e (Nat.ne_of_gt (Nat.pow_pos (by decide)))
    subst E;refine⟨0,-1074,?_,by rw[Nat.zero_mul,Nat.zero_mul]⟩
    unfold Format.nearest;rw[if_pos rfl,Fe neg 0 (by decide),if_pos (by decide)]
  · have k:0<c:=by omega
    obtain⟨L,F⟩:=Nm (c.log2);have l:2 ^ L<=c:=by rw[F];exact Nat.log2_self_le z
    have d:c<2 ^ (L+1):=by rw[F];exact Nat.lt_log2_self
    -- the number's own greatest place
    obtain⟨D,hD⟩:∃D:Nat,(D:Int)=place+L/\D<=52/\2 ^ D<=N/\N<2 ^ (D+1):=by
      rcases Int.le_total 0 place with j | j
      · obtain⟨p,rfl⟩:=Int.eq_ofNat_of_zero_le j;simp only[Int.toNat_natCast,Int.toNat_neg_natCast,Nat.pow_zero,Nat.mul_one]at h;have s:2 ^ (p+L)<=N:=by rw[<-h,Nat.add_comm,Nat.pow_add];exact Nat.mul_le_mul_right _ l
        have I:N<2 ^ (p+L+1):=by rw[<-h,show p+L+1=L+1+p by omega,Nat.pow_add];exact Nat.mul_lt_mul_of_pos_right d (Nat.pow_pos (by decide))
        have k3:p+L<53:=Gm (Nat.lt_of_le_of_lt s Y);exact⟨p+L,by simp,by omega,s,I⟩
      · obtain⟨q,rfl⟩:=Int.exists_eq_neg_ofNat j;simp only[Int.neg_neg,Int.toNat_natCast,Int.toNat_neg_natCast,Nat.pow_zero,Nat.mul_one]at h;have n:0<N:=by
          rcases Nat.eq_zero_or_pos N with e | e
          · subst e;simp at h;omega
          · exact e
        have k0:q<=L:=by
          have:2 ^ q<=c:=by rw[h];exact Nat.le_mul_of_pos_left _ n
          have:=Gm (Nat.lt_of_le_of_lt this d);omega
        have e:2 ^ L=2 ^ (L-q)*2 ^ q:=by rw[<-Nat.pow_add];congr 1;omega
        have u:2 ^ (L+1)=2 ^ (L-q+1)*2 ^ q:=by rw[<-Nat.pow_add];congr 1;omega
        have J:0<2 ^ q:=Nat.pow_pos (by decide)
        have s:2 ^ (L-q)<=N:=by
          rw[h,e]at l;exact Nat.le_of_mul_le_mul_right l J
        have I:N<2 ^ (L-q+1):=by
          rw[h,u]at d;exact Nat.lt_of_mul_lt_mul_right d
        have k3:L-q<53:=Gm (Nat.lt_of_le_of_lt s Y);exact⟨L-q,by omega,by omega,s,I⟩
    obtain⟨aa,Uf,n,M⟩:=hD;have o:max (place+(L:Int)-52) (-1074)=(D:Int)-52:=by omega
    have r:Toward.even.cut neg (c <<< (place-((D:Int)-52)).toNat) (((D:Int)-52)-place).toNat=N*2 ^ (52-D):=by
      rcases Nat.lt_or_ge 52 L with Z | ab
      · have O:(place-((D:Int)-52)).toNat=0:=by omega
        have u:(((D:Int)-52)-place).toNat=L-52:=by omega
        have j:place<0:=by omega
        obtain⟨q,rfl⟩:=Int.exists_eq_neg_ofNat (Int.le_of_lt j);simp only[Int.neg_neg,Int.toNat_natCast,Int.toNat_neg_natCast,Nat.pow_zero,Nat.mul_one]at h;have Q:2 ^ q=2 ^ (52-D)*2 ^ (L-52):=by rw[<-Nat.pow_add];congr 1;omega
        have x:c=N*2 ^ (52-D)*2 ^ (L-52):=by rw[h,Q,Nat.mul_assoc]
        rw[O,u,Nat.shiftLeft_zero,Dq neg c (L-52) k ⟨N*2 ^ (52-D),by rw[x];exact Nat.mul_comm _ _⟩]
        rw[x];exact Nat.mul_div_cancel _ (Nat.pow_pos (by decide))
      · have O:(place-((D:Int)-52)).toNat=52-L:=by omega
        have u:(((D:Int)-52)-place).toNat=0:=by omega
        rw[O,u,Dq neg _ 0 (by rw[Nat.shiftLeft_eq];exact Nat.mul_pos k (Nat.pow_pos (by decide))) ⟨_,(Nat.one_mul _).symm⟩,Nat.pow_zero,Nat.div_one,Nat.shiftLeft_eq]
        rcases Int.le_total 0 place with j | j
        · obtain⟨p,rfl⟩:=Int.eq_ofNat_of_zero_le j;simp only[Int.toNat_natCast,Int.toNat_neg_natCast,Nat.pow_zero,Nat.mul_one]at h;rw[<-h,Nat.mul_assoc,<-Nat.pow_add]
          congr 2
          omega
        · obtain⟨q,rfl⟩:=Int.exists_eq_neg_ofNat j;simp only[Int.neg_neg,Int.toNat_natCast,Int.toNat_neg_natCast,Nat.pow_zero,Nat.mul_one]at h;rw[h,Nat.mul_assoc,<-Nat.pow_add]
          congr 2
          omega
    obtain⟨K,y⟩:=Nm (N*2 ^ (52 - D));have R:4503599627370496<=K:=by
      have:2 ^ D*2 ^ (52-D)<=K:=by rw[y];exact Nat.mul_le_mul_right _ n
      rw[<-Nat.pow_add,show D+(52-D)=52 by omega]at this
      exact this
    have S:K<9007199254740992:=by
      have:K<2 ^ (D+1)*2 ^ (52-D):=by rw[y];exact Nat.mul_lt_mul_of_pos_right M (Nat.pow_pos (by decide))
      rw[<-Nat.pow_add,show D+1+(52-D)=53 by omega]at this
      exact this
    refine⟨K,(D:Int)-52,?_,?_⟩
    · have U:(double.fractionBits:Int)=52:=rfl;have Q:((D:Int)-52-(-1074)).toNat=D+1022:=by omega
      have e4:(D+1022)*4503599627370496+K<=9218868437227405312:=by omega
      have hR:((D:Int)-52-double.leastPlace).toNat*double.binade+K=(D+1022)*4503599627370496+K:=by
        have:∀a b:Nat,((D:Int)-52-double.leastPlace).toNat=a->double.binade=b->((D:Int)-52-double.leastPlace).toNat*double.binade+K=a*b+K:=λa b h1 h2=>by rw[h1,h2]
        exact this _ _ (by rw[lp];exact Q) XA
      rw[MF neg c place z ((D:Int)-52) (by rw[U,lp,<-F];exact o) K (by rw[y];exact r) _ hR (by rw[WI];exact Nat.min_eq_left e4)]
      exact Q9 neg D K Uf R S
    · rw[show((D:Int)-52).toNat=0 by omega,show(-((D:Int)-52)).toNat=52-D by omega,Nat.pow_zero,Nat.mul_one,y]
theorem Gw(s:Bool)(m:Nat):(sZ s m).natAbs=m:=by cases s <;> simp[sZ]
theorem yL {d:Datum} {n:Int}(h:Val d n)(q:n.natAbs<9007199254740992):jT (double.write d) n:=by
 obtain⟨s,m,i,rfl,j⟩:=h;have r:m*2 ^ i.toNat=n.natAbs*2 ^ (-i).toNat:=by
  have:=congrArg Int.natAbs j;rw[Int.natAbs_mul,Int.natAbs_mul,Gw,Int.natAbs_pow,Int.natAbs_pow]at this;exact this
 obtain⟨k,l,u,a⟩:=JF s m i n.natAbs r q;refine⟨s,k,l,u,?_⟩;by_cases x:n=0
 ·subst x;have:k=0:=by
   rw[Int.natAbs_zero,Nat.zero_mul]at a;rcases Nat.mul_eq_zero.1 a with e | e
   ·exact e
   exact absurd e (Nat.ne_of_gt (Nat.pow_pos (by decide)))
  subst this;cases s <;> simp[sZ]
 have y:n=sZ s n.natAbs:=by
  have b:(0:Int)<2 ^ i.toNat:=Int.pow_pos (by decide)
  have c:(0:Int)<2 ^ (-i).toNat:=Int.pow_pos (by decide)
  cases s with
  | true=>
   simp only[sZ,if_true]at j ⊢;have:n<=0:=by
    rcases Int.le_total n 0 with e | e
    ·exact e
    have o:0<n*2 ^ (-i).toNat:=Int.mul_pos (by omega) c
    have z: -(m:Int)*2 ^ i.toNat<=0:=by
     rw[Int.neg_mul];have:=Int.mul_nonneg (show(0:Int)<=m by omega) (Int.le_of_lt b)
     omega
    omega
   omega
  | false=>
   simp only[sZ,Bool.false_eq_true,if_false]at j ⊢;have:0<=n:=by
    rcases Int.le_total 0 n with e | e
    ·exact e
    have o:0 < -n*2 ^ (-i).toNat:=Int.mul_pos (by omega) c
    rw[Int.neg_mul]at o;have:=Int.mul_nonneg (show(0:Int)<=m by omega) (Int.le_of_lt b)
    omega
   omega
 have p:(k:Int)*2 ^ l.toNat=(n.natAbs:Int)*2 ^ (-l).toNat:=by exact_mod_cast a
 rw[y];cases s
 ·simpa[sZ]using p
 simp only[sZ,if_true,Int.neg_mul,p]
theorem Val.VJ {s:Bool} {m:Nat} {i n b:Int}(d:b<=i)(e:b<=0)(h:sZ s m*2 ^ (i-b).toNat=n*2 ^ (-b).toNat):sZ s m*2 ^ i.toNat=n*2 ^ (-i).toNat:=by
 obtain⟨k,a⟩:∃k:Nat,(i - b).toNat=i.toNat+k/\(-b).toNat=(-i).toNat+k:=by
  rcases Int.le_total 0 i with c | c
  ·exact⟨(-b).toNat,by omega⟩
  exact⟨(i-b).toNat,by omega⟩
 rw[a.1,a.2,Int.pow_add,Int.pow_add,<-Int.mul_assoc,<-Int.mul_assoc]at h;exact Int.eq_of_mul_eq_mul_right (Int.ne_of_gt (Int.pow_pos (by decide))) h
theorem Val.sum {d e:Datum} {a b:Int}(h:Val d a)(k:Val e b):∃r,d.sum e=some r/\Val r (a+b):=by
 obtain⟨s,m,i,rfl,u⟩:=h;obtain⟨t,n,j,rfl,x⟩:=k;obtain⟨B,y⟩:=Nm (min i j);obtain⟨T,o⟩:=Nm (sZ s m*2 ^ (i - B).toNat+sZ t n*2 ^ (j - B).toNat);refine⟨.number (if T=0 then s && t else T<0) T.natAbs B,?_,?_⟩
 ·simp only[Datum.sum,qg,<-y,<-o]
 refine⟨_,_,_,rfl,?_⟩;have z:sZ (if T=0 then s && t else decide (T<0)) T.natAbs=T:=by
  by_cases p:T=0
  ·rw[p];simp[sZ]
  rw[if_neg p];by_cases l:T<0
  ·simp only[l,decide_true,sZ,if_true];omega
  simp only[l,decide_false,sZ,Bool.false_eq_true,if_false];omega
 rw[z];obtain⟨C,I⟩:=Nm (min B 0);have l:=Val.scale (b:=C) u (by omega) (by omega)
 have q:=Val.scale (b:=C) x (by omega) (by omega)
 have D:(i-C).toNat=(i-B).toNat+(B-C).toNat:=by omega
 have E:(j-C).toNat=(j-B).toNat+(B-C).toNat:=by omega
 rw[D,Int.pow_add,<-Int.mul_assoc]at l;rw[E,Int.pow_add,<-Int.mul_assoc]at q;have c:T*2 ^ (B-C).toNat=(a+b)*2 ^ (-C).toNat:=by rw[o,Int.add_mul,Int.add_mul,l,q]
 rcases Int.le_total B 0 with F | F
 ·have:C=B:=by omega
  subst this;rw[show C.toNat=0 by omega]
  simpa using c
 have:C=0:=by omega
 subst this;rw[show(-B).toNat=0 by omega]
 simpa using c
theorem sS(a b:Int)(k:Nat):compare (a*2 ^ k) (b*2 ^ k)=compare a b:=by
 have c:(0:Int)<2 ^ k:=Int.pow_pos (by decide)
 simp only[compare,compareOfLessAndEq,Int.mul_lt_mul_right c,Int.mul_eq_mul_right_iff (Int.ne_of_gt c)]
theorem Val.order {d e:Datum} {a b:Int}(h:Val d a)(k:Val e b):d.order e=some (compare a b):=by
 obtain⟨s,m,i,rfl,o⟩:=h;obtain⟨t,n,j,rfl,p⟩:=k;obtain⟨B,q⟩:=Nm (min i j);obtain⟨C,x⟩:=Nm (min B 0);have c:=Val.scale (b:=C) o (by omega) (by omega)
 have l:=Val.scale (b:=C) p (by omega) (by omega)
 have r:(i-C).toNat=(i-B).toNat+(B-C).toNat:=by omega
 have u:(j-C).toNat=(j-B).toNat+(B-C).toNat:=by omega
 rw[r,Int.pow_add,<-Int.mul_assoc]at c;rw[u,Int.pow_add,<-Int.mul_assoc]at l;simp only[Datum.order,qg,<-q];rw[<-sS _ _ (B-C).toNat,c,l,sS]
theorem Val.Xm {d e:Datum} {a:Int}(h:Val d a)(k:d.order e=some .eq)(l:∃t n j,e=.number t n j):Val e a:=by
 obtain⟨s,m,i,rfl,o⟩:=h;obtain⟨t,n,j,rfl⟩:=l;obtain⟨B,p⟩:=Nm (min i j);simp only[Datum.order,qg,<-p,Option.some.injEq]at k;have q:sZ s m*2 ^ (i-B).toNat=sZ t n*2 ^ (j-B).toNat:=by
  simp only[compare,compareOfLessAndEq]at k
  split at k
  ·cases k
  split at k
  ·assumption
  cases k
 obtain⟨C,x⟩:=Nm (min B 0);have c:=Val.scale (b:=C) o (by omega) (by omega)
 have r:(i-C).toNat=(i-B).toNat+(B-C).toNat:=by omega
 have u:(j-C).toNat=(j-B).toNat+(B-C).toNat:=by omega
 refine⟨t,n,j,rfl,Val.VJ (b:=C) (by omega) (by omega) ?_⟩
 rw[r,Int.pow_add,<-Int.mul_assoc,q,Int.mul_assoc,<-Int.pow_add,<-u]at c;exact c
open Go Go.RowKit Ieee
def Tq(n:Int):Nat:=FloatKind.f64.nearest n
theorem NW(n:Int)(h:n.natAbs<9007199254740992):jT (Tq n) n:=by
 refine yL (d:=.number (decide (n<0)) n.natAbs 0) ⟨_,_,_,rfl,?_⟩ h;by_cases a:n<0
 ·simp[sZ,a];omega
 simp[sZ,a];omega
section
variable {P : Program} {x y : Nat} {a b : Int} (w : World) (t : TypeId)
theorem Jn(h:jT x a)(k:jT y b)(c:(a+b).natAbs<9007199254740992):∃r,double.add x y=some r/\jT r (a+b):=by
 obtain⟨d,e,j⟩:=h.sum k;exact⟨_,by rw[Format.add,e];rfl,yL j c⟩
theorem qB(h:jT x a)(k:jT y b):double.order x y=some (compare a b):=Val.order h k
theorem cmp_eq(a b:Int):(some (compare a b)==some Ordering.eq)=decide (a=b):=by
 simp only[compare,compareOfLessAndEq];by_cases d:a<b
 ·rw[if_pos d];simp;omega
 rw[if_neg d];by_cases c:a=b
 ·rw[if_pos c];simp[c]
 rw[if_neg c];simp[c]
theorem WC(a b:Int):(some (compare a b)==some Ordering.lt)=decide (a<b):=by
 simp only[compare,compareOfLessAndEq];by_cases c:a<b
 ·rw[if_pos c];simp[c]
 rw[if_neg c];by_cases d:a=b
 ·rw[if_pos d];simp[d]
 rw[if_neg d];simp;omega
theorem TW(h:jT x a)(k:jT y b):(binOp .leq t (.float .f64 x) (.float .f64 y)).run P w=.ok (.bool (decide (a<=b))) w:=by
 show Result.ok (Value.bool (double.order x y==some .lt || double.order x y==some .eq)) w=_
 rw[qB h k,WC,cmp_eq]
 congr 2
 rw[Bool.eq_iff_iff];simp;omega
theorem Qh(a:Toward)(neg:Bool)(n d:Nat)(b:0<n)(h:2 ^ d ∣ n):a.cut neg n d=n / 2 ^ d:=by
 have k:d<=n.log2:=by
  have c:2 ^ d<=n:=Nat.le_of_dvd b h;exact(Nat.le_log2 (by omega)).2 c
 have e:min d (n.log2+2)=d:=by omega
 have j:n % 2 ^ d=0:=Nat.mod_eq_zero_of_dvd h;unfold Toward.cut;simp only[e,Nat.shiftLeft_eq,Nat.one_mul,j];cases a <;> simp
theorem Lt(a:Toward)(neg:Bool)(d:Nat):a.cut neg 0 d=0:=by
 unfold Toward.cut;have b:0<1 <<< min d ((0:Nat).log2+2):=by rw[Nat.shiftLeft_eq,Nat.one_mul];exact Nat.pow_pos (by decide)
 simp only[Nat.zero_div,Nat.zero_mod];cases a <;> simp
theorem Val.integral {d:Datum} {n:Int}(h:Val d n)(b:Toward):∃s,d.integral b=.number s n.natAbs 0/\sZ s n.natAbs=n:=by
 obtain⟨s,m,i,rfl,j⟩:=h;have k:m*2 ^ i.toNat=n.natAbs*2 ^ (-i).toNat:=by
  have:=congrArg Int.natAbs j;rw[Int.natAbs_mul,Int.natAbs_mul,Gw,Int.natAbs_pow,Int.natAbs_pow]at this;exact this
 have l:0<2 ^ (-i).toNat:=Nat.pow_pos (by decide)
 have o:0<2 ^ i.toNat:=Nat.pow_pos (by decide)
 have p:b.cut s (m <<< i.toNat) (-i).toNat=n.natAbs:=by
  rw[Nat.shiftLeft_eq,k];rcases Nat.eq_zero_or_pos n.natAbs with e | e
  ·rw[e,Nat.zero_mul,Lt]
  rw[Qh b s _ _ (Nat.mul_pos e l) ⟨n.natAbs,Nat.mul_comm _ _⟩,Nat.mul_div_cancel _ l]
 refine⟨s,by rw[Datum.integral,p],?_⟩
 have q:(0:Int)<2 ^ i.toNat:=Int.pow_pos (by decide)
 have c:(0:Int)<2 ^ (-i).toNat:=Int.pow_pos (by decide)
 have r:sZ s n.natAbs*2 ^ (-i).toNat=n*2 ^ (-i).toNat:=by
  rw[<-j];have a:(m:Int)*2 ^ i.toNat=(n.natAbs:Int)*2 ^ (-i).toNat:=by exact_mod_cast k
  cases s
  ·simp only[sZ,Bool.false_eq_true,if_false,a]
  simp only[sZ,if_true,Int.neg_mul,a]
 exact Int.eq_of_mul_eq_mul_right (Int.ne_of_gt c) r
theorem jW {src b:TypeId} {k:IntKind}(c:(P.underlying src).isSome=true)(d:P.underlying b=some (.int k))(h:jT x a)(e:k.min<=a)(j:a<=k.max):
  (convert src b (.float .f64 x)).run P w=.ok (.int k a) w:=by
 refine run_convert_float_int w src b .f64 k x a c d ?_;obtain⟨s,l,m⟩:=Val.integral h .zero;have n:(FloatKind.f64.decode x).toInt .zero=some a:=by
  show(double.read x).toInt .zero=some a;rw[Datum.toInt,l];simp only[qg];rw[m,Int.pow_zero,Int.mul_one]
 unfold floatToIntVal;rw[n];simp only[e,j,and_self,if_true]
theorem pY {src b:TypeId} {k:IntKind}(c:P.underlying src=some (.int k))(d:P.underlying b=some (.float .f64)):(convert src b (.int k a)).run P w=.ok (.float .f64 (Tq a)) w:=by
 simp[convert,run_underlying c,run_underlying d,Conv.intToFloat,Tq]
theorem TV {c d:Nat} {e j:Int}(h:jT x a)(k:jT y b)(l:jT c e)(m:jT d j):
  (binOp .eql t (.complex .f64 x c) (.complex .f64 y d)).run P w=.ok (.bool (decide (a=b/\e=j))) w:=by
 have n:(Op.Complex.cmp .eql .f64 x y).run P w=.ok (decide (a=b)) w:=by
  show Result.ok (double.order x y==some .eq) w=_;rw[qB h k,cmp_eq]
 have o:(Op.Complex.cmp .eql .f64 c d).run P w=.ok (decide (e=j)) w:=by
  show Result.ok (double.order c d==some .eq) w=_;rw[qB l m,cmp_eq]
 show(Op.complexOp .eql .f64 x c y d).run P w=_;simp only[Op.complexOp,Sem.run_bind,n,o,Result.andThen_ok];simp
theorem TU {d e:Nat} {j l:Int}(h:jT x a)(k:jT y b)(p:jT d j)(q:jT e l)(s:(a+b).natAbs<9007199254740992)(m:(j+l).natAbs<9007199254740992):
  ∃r c,jT r (a+b)/\jT c (j+l)/\∀w,(binOp .add t (.complex .f64 x d) (.complex .f64 y e)).run P w=.ok (.complex .f64 r c) w:=by
 obtain⟨r,u,z⟩:=Jn h k s;obtain⟨c,n,o⟩:=Jn p q m;refine⟨r,c,z,o,λw=>?_⟩;have D:(Op.Complex.arith .add .f64 x y).run P w=.ok r w:=by simp[Op.Complex.arith,Op.floatArith,FloatKind.format,u]
 have E:(Op.Complex.arith .add .f64 d e).run P w=.ok c w:=by simp[Op.Complex.arith,Op.floatArith,FloatKind.format,n]
 show(Op.complexOp .add .f64 x d y e).run P w=_;simp only[Op.complexOp,Sem.run_bind,D,E,Result.andThen_ok];simp
end
theorem DJ {s:Bool} {m:Nat} {i:Int} {e:Datum} {c:Int}(k:Val e c):(Datum.number s m i).order e=some (compare (sZ s m*2 ^ i.toNat) (c*2 ^ (-i).toNat)):=by
  obtain⟨t,n,j,rfl,h⟩:=k;obtain⟨B,l⟩:=Nm (min i j);obtain⟨C,u⟩:=Nm (min B 0);have a:=Val.scale (b:=C) h (by omega) (by omega)
  have o:(i-C).toNat=(i-B).toNat+(B-C).toNat:=by omega
  have p:(j-C).toNat=(j-B).toNat+(B-C).toNat:=by omega
  rw[p,Int.pow_add,<-Int.mul_assoc]at a;simp only[Datum.order,qg,<-l];rw[<-sS _ _ (B-C).toNat,a]
  -- both sides once more, by what the number's own place leaves
  obtain⟨q,d⟩:∃q:Nat,(i - C).toNat=i.toNat+q/\(-C).toNat=(-i).toNat+q:=by
    rcases Int.le_total 0 i with r | r
    · exact⟨(-C).toNat,by omega⟩
    · exact⟨(i-C).toNat,by omega⟩
  rw[Int.mul_assoc,<-Int.pow_add,<-o,d.1,d.2,Int.pow_add,Int.pow_add,<-Int.mul_assoc,<-Int.mul_assoc,sS]
theorem WB {a b:Int}(h:(compare a b==Ordering.lt || compare a b==Ordering.eq)=true):a<=b:=by
 rcases Int.lt_trichotomy a b with c | c | c
 ·omega
 ·omega
 exfalso
 have e:compare a b=.gt:=by
  simp only[compare,compareOfLessAndEq];rw[if_neg (by omega),if_neg (by omega)]
 rw[e]at h
 revert h
 decide
theorem XD(o:Option Ordering)(a b:Ordering)(h:(o==some a || o==some b)=true):∃c,o=some c/\(c==a || c==b)=true:=by
 cases o with
 | none=>cases a <;> cases b <;> revert h <;> decide
 | some c=>exact⟨c,rfl,by simpa using h⟩
open Go.RowKit
def wL(re im:Int):Prop:=-1073741824<=re/\re<=1073741824/\ -1073741824<=im/\im<=1073741824
instance (re im:Int):Decidable (wL re im):=by unfold wL;exact inferInstance
def zQ(x:Nat):Prop:=∃n:Int,-1073741824<=n/\n<=1073741824/\jT x n
def nN(q:Int):Int × Int:=if q % 4=0 then (1,0)else if q % 4=1 then (0,1)else if q % 4=2 then (-1,0)else (0,-1)
open Go Go.RowKit Ieee
theorem BO(x:Nat):double.read (x % 9223372036854775808)=match double.read x with | .number _ m i=> .number false m i | .infinity _=> .infinity false | .nan _ t=> .nan false t:=by
 unfold Format.read;simp only[sW,XA,lp,WI];have d:(x % 9223372036854775808 / 9223372036854775808 % 2==1)=false:=by
  rw[Nat.div_eq_of_lt (Nat.mod_lt _ (by decide))]
  rfl
 rw[d,Nat.mod_mod]
 generalize x % 9223372036854775808=r
 generalize (x / 9223372036854775808 % 2==1)=s
 by_cases a:r<4503599627370496
 ·simp[a]
 by_cases b:r<9218868437227405312
 ·simp[a,b]
 by_cases c:r=9218868437227405312
 ·simp[c]
 simp[a,b,c]
theorem SG(x:Nat):bits .andNot .u64 (x:Int) 9223372036854775808=((x % 9223372036854775808:Nat):Int):=by
 have e:BitVec.ofInt 64 (x:Int)=BitVec.ofNat 64 x:=by
  apply BitVec.eq_of_toNat_eq;simp
 have a: ~~~ (BitVec.ofInt 64 9223372036854775808)=BitVec.ofNat 64 (2 ^ 63-1):=by decide+kernel
 show IntKind.u64.wrap ((BitVec.ofInt 64 (x:Int) &&& ~~~ BitVec.ofInt 64 9223372036854775808).toNat:Int)=_;rw[e,a,BitVec.toNat_and,BitVec.toNat_ofNat,BitVec.toNat_ofNat,show(2 ^ 63-1) % 2 ^ 64=2 ^ 63-1 by decide,Nat.and_two_pow_sub_one_eq_mod,show x % 2 ^ 64 % 2 ^ 63=x % 9223372036854775808 by omega]
 simp[IntKind.wrap,IntKind.bits,IntKind.signed];omega
theorem Jk(neg:Bool)(n q M:Nat)(h:n<=M*2 ^ q):Toward.zero.cut neg n q<=M:=by
 unfold Toward.cut;obtain⟨g,b⟩:=Nm (min q (n.log2+2));simp only[<-b,Nat.shiftLeft_eq,Nat.one_mul];show n / 2 ^ g+0<=M;rcases Nat.lt_or_ge (n.log2+2) q with c | c
 ·have e:g=n.log2+2:=by omega
  have a:n<2 ^ g:=by
   rw[e];exact Nat.lt_of_lt_of_le Nat.lt_log2_self (Nat.pow_le_pow_right (by decide) (by omega))
  rw[Nat.div_eq_of_lt a];exact Nat.zero_le _
 have e:g=q:=by omega
 subst e;exact Nat.div_le_of_le_mul (by rw[Nat.mul_comm];exact h)
def kz(x:Nat):Nat:=double.write ((double.read x).integral .zero)
def wQ(x:Nat):Nat:=x % 9223372036854775808
theorem Tv {x:Nat} {n:Int}(h:jT x n):jT (wQ x) n.natAbs:=by
 obtain⟨s,m,i,a,b⟩:=h;refine⟨false,m,i,by rw[wQ,BO,a],?_⟩
 have:=congrArg Int.natAbs b;rw[Int.natAbs_mul,Int.natAbs_mul,Gw,Int.natAbs_pow,Int.natAbs_pow]at this;simp only[sZ,Bool.false_eq_true,if_false];exact_mod_cast this
theorem zl {x c1:Nat} {M:Nat}(F:M<9007199254740992)(y:jT c1 (M:Int))(I:(double.order (wQ x) c1==some .lt || double.order (wQ x) c1==some .eq)=true):
    (∃s m i,double.read x=.number s m i)/\∃n:Int,jT (kz x) n/\ -(M:Int)<=n/\n<=M/\((double.order x (kz x)==some .eq)=true↔jT x n)/\∀p,jT x p->p=n:=by
  obtain⟨Y,b,q⟩:=XD _ _ _ I;have c:∃s m i,double.read x=.number s m i:=by
    obtain⟨Z,p,j',r,_⟩:=y;rw[Format.order,wQ,BO,r]at b
    cases d:double.read x with
    | number s m i=>exact⟨s,m,i,rfl⟩
    | infinity s=>
      exfalso
      rw[d]at b;simp only[Datum.order,Bool.false_eq_true,if_false,Option.some.injEq]at b;rw[<-b]at q
      revert q
      decide
    | nan s t=>
      exfalso
      rw[d]at b;simp[Datum.order]at b
  refine⟨c,?_⟩;obtain⟨s,m,i,d⟩:=c;rw[Format.order,wQ,BO,d]at b
  rw[show(match Datum.number s m i with | .number _ m i=>Datum.number false m i | .infinity _=> .infinity false | .nan _ t=> .nan false t)=Datum.number false m i from rfl,DJ y,Option.some.injEq]at b
  rw[<-b]at q;have z:=WB q;have J:m*2 ^ i.toNat<=M*2 ^ (-i).toNat:=by
    simp only[sZ,Bool.false_eq_true,if_false]at z;exact_mod_cast z
  obtain⟨K,D⟩:=Nm (Toward.zero.cut s (m <<< i.toNat) (-i).toNat);have L:K<=M:=by rw[D,Nat.shiftLeft_eq];exact Jk s _ _ M J
  have e:(double.read x).integral .zero=.number s K 0:=by rw[d,Datum.integral,D]
  have l:Val ((double.read x).integral .zero) (sZ s K):=⟨s,K,0,e,by simp⟩
  have E:(sZ s K).natAbs=K:=Gw s K;have a:jT (kz x) (sZ s K):=yL l (by omega)
  refine⟨sZ s K,a,by omega,by omega,⟨λh=>?_,λh=>?_⟩,λp h=>?_⟩
  · have k:double.order x (kz x)=some .eq:=by simpa using h
    have N:double.order (kz x) x=some .eq:=by
      rw[Format.order,d]at k;rw[DJ a,Option.some.injEq]at k;obtain⟨t,n,j,O,Q⟩:=a
      -- the other way round
      rw[Format.order,O,d];have R:sZ s m*2 ^ i.toNat=sZ s K*2 ^ (-i).toNat:=by
        simp only[compare,compareOfLessAndEq]at k
        split at k
        · cases k
        · split at k
          · assumption
          · cases k
      have S:Val (Datum.number s m i) (sZ s K):=⟨s,m,i,rfl,R⟩;have U:Val (Datum.number t n j) (sZ s K):=⟨t,n,j,rfl,Q⟩;rw[Val.order U S];simp[compare,compareOfLessAndEq]
    exact Val.Xm a N ⟨s,m,i,d⟩
  · rw[qB h a,cmp_eq];simp
  · obtain⟨s',o,u⟩:=Val.integral h .zero;rw[e]at o;injection o with a1 a2 a3
    rw[<-u,<-a1,<-a2]
end Go.Proofs.YtgfmbkoieacgoaaGreatDoor
