/- 10. -/
import Derived.Laws.Cover3
import Derived.Test.YtgfmbkoieacgoaaGreatDoorW2
import Derived.Test.YtgfmbkoieacgoaaGreatDoorW9
namespace Go.Proofs.YtgfmbkoieacgoaaGreatDoor
open Go Go.RowKit Ieee Go.Proofs.Tryz
theorem F6:jT 4742290407621132288 1073741824:=⟨false,4503599627370496,-22,by kernel_rfl,by decide+kernel⟩
theorem yA:jT 0 0:=⟨false,0,-1074,by kernel_rfl,by decide+kernel⟩
def ql(z:Value)(u v:Int):Prop:=∃p q,z=.complex .f64 p q/\jT p u/\jT q v
theorem ql.eql {c d:Value} {u v a b:Int}(h:ql c u v)(k:ql d a b)(t:TypeId)(w:World):(binOp .eql t c d).run prog w=.ok (.bool (decide (u=a/\v=b))) w:=by
 obtain⟨p,q,rfl,e,j⟩:=h;obtain⟨n,o,rfl,l,m⟩:=k;exact TV w t e l j m
theorem ql.guard {c d:Value} {u v a b:Int}(h:ql c u v)(k:ql d a b)(e:BinOp)(t:TypeId)(j l:Operand)(w:World):(eqGuard e t j l c d).run prog w=.ok () w:=by
 obtain⟨p,q,rfl,m,n⟩:=h;obtain⟨o,r,rfl,s,x⟩:=k;cases e <;> rfl
theorem ql.of(a b:Int)(h:wL a b):ql (.complex .f64 (Tq a) (Tq b)) a b:=⟨_,_,rfl,NW a (by unfold wL at h;omega),NW b (by unfold wL at h;omega)⟩
end Go.Proofs.YtgfmbkoieacgoaaGreatDoor
set_option maxRecDepth 100000
namespace Go.Proofs.YtgfmbkoieacgoaaGreatDoor
open Go Go.RowKit Ieee Go.Proofs.Tryz
def Vk(x:Nat):Prop:=∃s t,double.read x=.nan s t
theorem CP(w:World)(x:Nat):∃y w',(callFunc 273 #[.float .f64 x]).run prog w=.ok (.value (.float .f64 y)) w'/\(¬Vk x->y=kz x/\w'=w)/\Bw w w':=by
 rw [run_callFunc_extern (P := prog) (e := Extern.MathFloor.toIntegral "math.archTrunc" .zero) func273 (by kernel_rfl) (by kernel_rfl) (by kernel_rfl) (by kernel_rfl)]
 cases hd:FloatKind.f64.decode x with
 | number s m i=>
  refine⟨kz x,w,?_,λ_=>⟨rfl,rfl⟩,Br⟩
  have e : (Extern.MathFloor.toIntegral "math.archTrunc" .zero #[.float .f64 x]).run prog w = .ok (.float .f64 (kz x)) w := by
   change Sem.run prog (match FloatKind.f64.decode x with | .nan s t=>_ | d=>pure (Value.float .f64 (FloatKind.f64.encode (d.integral .zero)))) w=_
   rw[hd,kz,show double.read x=.number s m i from hd];rfl
  rw[e];rfl
 | infinity s=>
  refine⟨kz x,w,?_,λ_=>⟨rfl,rfl⟩,Br⟩
  have e : (Extern.MathFloor.toIntegral "math.archTrunc" .zero #[.float .f64 x]).run prog w = .ok (.float .f64 (kz x)) w := by
   change Sem.run prog (match FloatKind.f64.decode x with | .nan s t=>_ | d=>pure (Value.float .f64 (FloatKind.f64.encode (d.integral .zero)))) w=_
   rw[hd,kz,show double.read x=.infinity s from hd];rfl
  rw[e];rfl
 | nan s t=>
  have a:Vk x:=⟨s,t,hd⟩;by_cases b:FloatKind.f64.format.quiet t=t
  ·refine⟨x,w,?_,λh=>absurd a h,Br⟩
   have e : (Extern.MathFloor.toIntegral "math.archTrunc" .zero #[.float .f64 x]).run prog w = .ok (.float .f64 x) w := by
    change Sem.run prog (match FloatKind.f64.decode x with | .nan s t=>_ | d=>pure (Value.float .f64 (FloatKind.f64.encode (d.integral .zero)))) w=_
    rw[hd];dsimp only;rw[if_pos b];rfl
   rw[e];rfl
  ·have e : ∃ y w', (Extern.MathFloor.toIntegral "math.archTrunc" .zero #[.float .f64 x]).run prog w = .ok (.float .f64 y) w' ∧ Bw w w' := by
    change ∃y w',Sem.run prog (match FloatKind.f64.decode x with | .nan s t=>_ | d=>pure (Value.float .f64 (FloatKind.f64.encode (d.integral .zero)))) w=_/\_
    rw[hd];dsimp only;rw[if_neg b];simp only[Sem.run_bind,run_choose_drew]
    split
    ·exact⟨_,w,rfl,Br⟩
    exact⟨_,w.drew,rfl,Br.drew⟩
   obtain⟨y,w',e,c⟩:=e;exact⟨y,w',by rw[e];rfl,λh=>absurd a h,c⟩
theorem Rx(w:World)(x:Nat):Calls prog 257 #[.float .f64 x] w λe w'=>∃y,e=.returned (.float .f64 y)/\(¬Vk x->y=kz x/\w'=w)/\Bw w w':=by
 obtain⟨y,k,h,b,c⟩:=CP w x;have d:=Lh (bfy b c);clear b c;obtain⟨V,a⟩:=Nm (Value.float .f64 y);rw[<-a]at h;have j:=Lh a;clear a;go_enter func257,ntmps257;go_wp2_with fail;go_ret;exact⟨y,by rw[j.out];rfl,d.out.1,d.out.2⟩
theorem Qn(w:World)(x:Nat):(callFunc 276 #[.float .f64 x]).run prog w=.ok (.value (.int .u64 (x:Int))) w:=by
 rw[run_callFunc_extern (P:=prog) (e:=Extern.MathFloatBits.float64bits) func276 (by kernel_rfl) (by kernel_rfl) (by kernel_rfl) (by kernel_rfl)]
 rfl
theorem Qo(w:World)(x:Nat):(callFunc 275 #[.int .u64 (x:Int)]).run prog w=.ok (.value (.float .f64 x)) w:=by
 rw[run_callFunc_extern (P:=prog) (e:=Extern.MathFloatBits.float64frombits) func275 (by kernel_rfl) (by kernel_rfl) (by kernel_rfl) (by kernel_rfl)]
 rfl
theorem Vl(w:World)(x:Nat):Calls prog 258 #[.float .f64 x] w λe w'=>e=.returned (.float .f64 (wQ x))/\w'=w:=by
 have d:=λw=>Qn w x;have b:=λw=>Qo w (wQ x);have c:bits .andNot .u64 (x:Int) 9223372036854775808=((wQ x:Nat):Int):=SG x;obtain⟨y,a⟩:=Nm (wQ x);rw[<-a]at c b ⊢;clear a;go_enter func258,ntmps258;go_wp2_with fail;go_ret;exact⟨rfl,rfl⟩
def Wq(x:Nat):Bool:=double.order (wQ x) 4742290407621132288==some .lt || double.order (wQ x) 4742290407621132288==some .eq
def XK(x y:Nat):Bool:=double.order x y==some .eq
theorem J3(t:TypeId)(x:Nat)(w:World):(binOp .leq t (.float .f64 (wQ x)) (.float .f64 4742290407621132288)).run prog w=.ok (.bool (Wq x)) w:=rfl
theorem VH(t:TypeId)(x y:Nat)(w:World):(binOp .eql t (.float .f64 x) (.float .f64 y)).run prog w=.ok (.bool (XK x y)) w:=rfl
theorem Ny(x:Nat):zQ x↔XK x (kz x)=true/\Wq x=true:=by
 constructor
 ·rintro⟨n,e,h,c⟩;have b:Wq x=true:=by
   have:=TW (P:=prog) (t:=0) (w:=default) (Tv c) F6;rw[J3]at this;injection this with this
   injection this with this
   rw[this];exact bfr (by omega)
  obtain⟨_,m,_,_,_,a,d⟩:=zl (M:=1073741824) (by decide) F6 b
  have:=d n c;subst this;exact⟨a.2 c,b⟩
 rintro⟨j,b⟩;obtain⟨_,m,_,e,h,a,_⟩:=zl (M:=1073741824) (by decide) F6 b
 exact⟨m,e,h,a.1 j⟩
theorem GK {x:Nat}(h:zQ x):¬Vk x:=by
 rintro⟨s,t,b⟩;obtain⟨n,_,_,c,m,i,a,_⟩:=h;rw[b]at a;cases a
theorem Bl(w:World)(x:Nat)(h:zQ x):Calls prog 231 #[.float .f64 x] w λe w'=>e=.returned (.bool true)/\w'=w:=by
 obtain⟨l,m⟩:=(Ny x).1 h;have s:=Lh (GK h);have n:=Lh (Rx w x);have c:=Lh (Vl w x);have d:=λt w=>VH t x (kz x) w;have o:=λt w=>J3 t x w;rw[l]at d;rw[m]at o;obtain⟨V,j⟩:=Nm (Value.float .f64 x);obtain⟨u,b⟩:=Nm (Value.float .f64 (kz x));obtain⟨F,a⟩:=Nm (Value.float .f64 (wQ x));have z:∀k t p q w,(eqGuard k t p q V u).run prog w=.ok () w:=λk t p q w=>by rw[j,b];cases k <;> rfl
 rw[<-j]at n c d ⊢;rw[<-b]at d;rw[<-a]at o c;have D:=Lh b;clear j b a h l m;go_enter func231,ntmps231;go_wp2_with fail;refine n.out.mono ?_;rintro e E ⟨y,rfl,r,_⟩;obtain⟨rfl,rfl⟩:=r s.out;rw[<-D.out];clear r;dsimp only;go_wp2_with fail;refine c.out.mono ?_;rintro e E ⟨rfl,rfl⟩;dsimp only;go_wp2_with fail;go_ret;exact⟨rfl,rfl⟩
def dN(z:Value)(u v:Int):Prop:=ql z u v/\wL u v
theorem dN.parts {z:Value} {u v:Int}(h:dN z u v):∃p q,z=.complex .f64 p q/\zQ p/\zQ q:=by
 obtain⟨⟨p,q,rfl,a,b⟩,c⟩:=h;unfold wL at c;exact⟨p,q,rfl,⟨u,by omega,by omega,a⟩,⟨v,by omega,by omega,b⟩⟩
theorem tK(w:World)(z:Value)(u v:Int)(h:dN z u v):Calls prog 196 #[z] w λe w'=>e=.returned (.bool true)/\w'=w:=by
 obtain⟨p,q,rfl,a,b⟩:=h.parts;have c:=Lh (Bl w p a);have d:=Lh (Bl w q b);clear h a b;go_enter func196,ntmps196;go_wp2_with fail;refine c.out.mono ?_;rintro e j ⟨rfl,rfl⟩;dsimp only;go_wp2_with fail;refine d.out.mono ?_;rintro e j ⟨rfl,rfl⟩;dsimp only;go_wp2_with fail;go_ret;exact⟨rfl,rfl⟩
def dC:Value:=.complex .f64 0 0
def WL(a b:Int):Value:=.complex .f64 (Tq a) (Tq b)
def Vj(a b:Int):Value:=if wL a b then WL a b else dC
def VC(a b:Int):Int:=if wL a b then 0 else 20
theorem MJ {a b:Int}(h:wL a b):dN (WL a b) a b:=⟨ql.of a b h,h⟩
theorem yO:ql dC 0 0:=⟨_,_,rfl,yA,yA⟩
theorem jd:dN dC 0 0:=⟨yO,by unfold wL;omega⟩
theorem WN(w:World)(a b:Int):Calls prog 230 #[.int .i64 a,.int .i64 b] w λe w'=>e=.returned (.tuple #[Vj a b,.int .i64 (VC a b)])/\w'=w:=by
 by_cases c:wL a b
 ·rw[Vj,VC,if_pos c,if_pos c,WL];obtain⟨o,d⟩:=Nm (Value.float .f64 (Tq a));obtain⟨p,h⟩:=Nm (Value.float .f64 (Tq b));obtain⟨r,j⟩:=Nm (Value.complex .f64 (Tq a) (Tq b));have s:∀w,(convert 3 162 (.int .i64 a)).run prog w=.ok o w:=λw=>by rw[d];exact pY w underlying3 underlying162
  have u:∀w,(convert 3 162 (.int .i64 b)).run prog w=.ok p w:=λw=>by rw[h];exact pY w underlying3 underlying162
  have x:∀m t w,(Builtin.complex_ m t #[o,p]).run prog w=.ok r w:=λm t w=>by rw[d,h,j];exact run_complex w m t .f64 _ _
  rw[<-j];unfold wL at c;obtain⟨y,z,D,E⟩:=c;have l:¬a < -1073741824:=by omega
  have n:¬(1073741824:Int)<a:=by omega
  have q:¬b < -1073741824:=by omega
  have F:¬(1073741824:Int)<b:=by omega
  clear d h j y z D E;go_enter func230,ntmps230;go_wp2_with fail;refine bodyPost_ret (results_tmp2 rfl _ _ _) rfl ?_;exact⟨rfl,rfl⟩
 rw[Vj,VC,if_neg c,if_neg c,dC];have k:a < -1073741824∨(¬a < -1073741824/\(1073741824:Int)<a)∨(¬a < -1073741824/\¬(1073741824:Int)<a/\b < -1073741824)∨(¬a < -1073741824/\¬(1073741824:Int)<a/\¬b < -1073741824/\(1073741824:Int)<b):=by
  unfold wL at c;omega
 clear c;rcases k with l | ⟨l,n⟩ | ⟨l,n,q⟩ | ⟨l,n,q,F⟩
 all_goals
  go_enter func230,ntmps230;go_wp2_with fail;refine bodyPost_ret (results_tmp2 rfl _ _ _) rfl ?_;exact⟨rfl,rfl⟩
theorem Jo:jT 4607182418800017408 1:=⟨false,4503599627370496,-52,by kernel_rfl,by decide+kernel⟩
theorem Dw:jT 13830554455654793216 (-1):=⟨true,4503599627370496,-52,by kernel_rfl,by decide+kernel⟩
theorem P6(q:Int):bits .and .i64 q 3=q % 4:=by
 have a:BitVec.ofInt 64 3=BitVec.ofNat 64 (2 ^ 2-1):=rfl;show IntKind.i64.wrap ((BitVec.ofInt 64 q &&& BitVec.ofInt 64 3).toNat:Int)=_;rw[a,BitVec.toNat_and,BitVec.toNat_ofNat,show(2 ^ 2-1) % 2 ^ 64=2 ^ 2-1 by decide,Nat.and_two_pow_sub_one_eq_mod,BitVec.toNat_ofInt]
 rw[IntWalk.i64_in _ (by omega)]
 omega
theorem Vd(w:World)(q:Int):Calls prog 271 #[.int .i64 q] w λe w'=>∃z,e=.returned z/\ql z (nN q).1 (nN q).2/\w'=w:=by
 have h:=P6 q;obtain⟨r,b⟩:=Nm (q % 4);rw[<-b]at h;have c:r=0∨r=1∨r=2∨r=3:=by omega
 have a:=Lh b;clear b;rcases c with rfl | rfl | rfl | rfl
 ·go_enter func271,ntmps271;go_wp2_with fail;go_ret;refine⟨_,rfl,⟨_,_,rfl,?_⟩,rfl⟩;rw[nN,if_pos a.out.symm];exact⟨Jo,yA⟩
 ·go_enter func271,ntmps271;go_wp2_with fail;go_ret;refine⟨_,rfl,⟨_,_,rfl,?_⟩,rfl⟩;rw[nN,<-a.out];exact⟨yA,Jo⟩
 ·go_enter func271,ntmps271;go_wp2_with fail;go_ret;refine⟨_,rfl,⟨_,_,rfl,?_⟩,rfl⟩;rw[nN,<-a.out];exact⟨Dw,yA⟩
 go_enter func271,ntmps271;go_wp2_with fail;go_ret;refine⟨_,rfl,⟨_,_,rfl,?_⟩,rfl⟩;rw[nN,<-a.out];exact⟨yA,Dw⟩
theorem QV(w:World)(z:Value)(u v:Int)(h:dN z u v):Calls prog 197 #[z] w λe w'=>e=.returned (.tuple #[.int .i64 u,.int .i64 v])/\w'=w:=by
 have d:=Lh (tK w z u v h);obtain⟨⟨p,q,rfl,a,b⟩,c⟩:=h;unfold wL at c;have j:∀w,(convert 162 3 (.float .f64 p)).run prog w=.ok (.int .i64 u) w:=λw=>jW w (by rw[underlying162];rfl) underlying3 a (by simp[IntKind.min,IntKind.signed,IntKind.bits];omega) (by simp[IntKind.max,IntKind.signed,IntKind.bits];omega)
 have k:∀w,(convert 162 3 (.float .f64 q)).run prog w=.ok (.int .i64 v) w:=λw=>jW w (by rw[underlying162];rfl) underlying3 b (by simp[IntKind.min,IntKind.signed,IntKind.bits];omega) (by simp[IntKind.max,IntKind.signed,IntKind.bits];omega)
 clear a b c;go_enter func197,ntmps197;go_wp2_with fail;refine d.out.mono ?_;rintro e l ⟨rfl,rfl⟩;dsimp only;go_wp2_with fail;refine bodyPost_ret (results_tmp2 rfl _ _ _) rfl ?_;exact⟨rfl,rfl⟩
theorem QW(w:World)(z:Value)(u v:Int)(h:ql z u v)(k:u.natAbs<9223372036854775808)(l:v.natAbs<9223372036854775808):
  Calls prog 283 #[z] w λe w'=>e=.returned (.tuple #[Vj u v,.int .i64 (VC u v)])/\w'=w:=by
 obtain⟨p,q,rfl,a,b⟩:=h;have m:∀w,(convert 162 3 (.float .f64 p)).run prog w=.ok (.int .i64 u) w:=λw=>jW w (by rw[underlying162];rfl) underlying3 a (by simp[IntKind.min,IntKind.signed,IntKind.bits];omega) (by simp[IntKind.max,IntKind.signed,IntKind.bits];omega)
 have n:∀w,(convert 162 3 (.float .f64 q)).run prog w=.ok (.int .i64 v) w:=λw=>jW w (by rw[underlying162];rfl) underlying3 b (by simp[IntKind.min,IntKind.signed,IntKind.bits];omega) (by simp[IntKind.max,IntKind.signed,IntKind.bits];omega)
 have c:=Lh (WN w u v);obtain⟨V,d⟩:=Nm (Vj u v);obtain⟨E,j⟩:=Nm (VC u v);rw[<-d,<-j]at c ⊢;clear a b k l d j;go_enter func283,ntmps283;go_wp2_with fail;refine c.out.mono ?_;rintro e o ⟨rfl,rfl⟩;dsimp only;go_wp2_with fail;refine bodyPost_ret (results_tmp2 rfl _ _ _) rfl ?_;exact⟨rfl,rfl⟩
def NM(w:World)(a b:Int)(e:Ending)(w':World):Prop:=e=.returned (.tuple #[Vj a b,.int .i64 (VC a b)])/\w'=w
theorem Vo(w:World)(x y:Value)(u v a b:Int)(n:dN x u v)(o:dN y a b):Calls prog 270 #[x,y] w (NM w (u+a) (v+b)):=by
 have S:=Lh (λw=>tK w x u v n);have U:=Lh (λw=>tK w y a b o);obtain⟨⟨p,q,d,z,D⟩,F⟩:=n;obtain⟨⟨r,s,h,I,J⟩,K⟩:=o;unfold wL at F K;obtain⟨j,k,L,M,c⟩:=TU (P:=prog) (t:=118) z I D J (by omega) (by omega)
 have l:∀w,(binOp .add 118 x y).run prog w=.ok (.complex .f64 j k) w:=λw=>by rw[d,h];exact c w
 have m:=Lh (λw=>QW w (.complex .f64 j k) (u+a) (v+b) ⟨_,_,rfl,L,M⟩ (by omega) (by omega))
 obtain⟨Z,N⟩:=Nm (Value.complex .f64 j k);simp only[<-N]at l m;unfold NM;obtain⟨V,O⟩:=Nm (Vj (u+a) (v+b));obtain⟨E,Q⟩:=Nm (VC (u+a) (v+b));simp only[<-O,<-Q]at m ⊢;clear d h z D F I J K L M c N O Q;go_enter func270,ntmps270;go_wp2_with fail;refine(S.out _).mono ?_;rintro e R ⟨rfl,rfl⟩;dsimp only;go_wp2_with fail;refine(U.out _).mono ?_;rintro e R ⟨rfl,rfl⟩;dsimp only;go_wp2_with fail;refine(m.out _).mono ?_;rintro e R ⟨rfl,rfl⟩;dsimp only;go_wp2_with fail;refine bodyPost_ret (results_tmp2 rfl _ _ _) rfl ?_;exact⟨rfl,rfl⟩
end Go.Proofs.YtgfmbkoieacgoaaGreatDoor
