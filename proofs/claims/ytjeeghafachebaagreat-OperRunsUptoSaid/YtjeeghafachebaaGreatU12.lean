/-
  12.
-/
import Derived.Test.YtjeeghafachebaaGreatU10
import Derived.Test.YtjeeghafachebaaGreatU11
set_option maxRecDepth 100000
namespace Go.Proofs.YtjeeghafachebaaGreat
open Go Go.RowKit Ieee Go.Proofs.Tryz
def PO(x:Nat):Prop:=∃s t,double.read x=.nan s t
theorem Cj(w:World)(x:Nat):∃y w',(callFunc 136 #[.float .f64 x]).run prog w=.ok (.value (.float .f64 y)) w'/\(¬PO x->y=kU x/\w'=w)/\Bw w w':=by
 rw [run_callFunc_extern (P := prog) (e := Extern.MathFloor.toIntegral "math.archTrunc" .zero) func136 (by kernel_rfl) (by kernel_rfl) (by kernel_rfl) (by kernel_rfl)]
 cases hd:FloatKind.f64.decode x with
 | number s m i=>
  refine⟨kU x,w,?_,λ_=>⟨rfl,rfl⟩,Br⟩
  have e : (Extern.MathFloor.toIntegral "math.archTrunc" .zero #[.float .f64 x]).run prog w = .ok (.float .f64 (kU x)) w := by
   change Sem.run prog (match FloatKind.f64.decode x with | .nan s t=>_ | d=>pure (Value.float .f64 (FloatKind.f64.encode (d.integral .zero)))) w=_
   rw[hd,kU,show double.read x=.number s m i from hd];rfl
  rw[e];rfl
 | infinity s=>
  refine⟨kU x,w,?_,λ_=>⟨rfl,rfl⟩,Br⟩
  have e : (Extern.MathFloor.toIntegral "math.archTrunc" .zero #[.float .f64 x]).run prog w = .ok (.float .f64 (kU x)) w := by
   change Sem.run prog (match FloatKind.f64.decode x with | .nan s t=>_ | d=>pure (Value.float .f64 (FloatKind.f64.encode (d.integral .zero)))) w=_
   rw[hd,kU,show double.read x=.infinity s from hd];rfl
  rw[e];rfl
 | nan s t=>
  have hn:PO x:=⟨s,t,hd⟩;by_cases hq:FloatKind.f64.format.quiet t=t
  ·refine⟨x,w,?_,λh=>absurd hn h,Br⟩
   have e : (Extern.MathFloor.toIntegral "math.archTrunc" .zero #[.float .f64 x]).run prog w = .ok (.float .f64 x) w := by
    change Sem.run prog (match FloatKind.f64.decode x with | .nan s t=>_ | d=>pure (Value.float .f64 (FloatKind.f64.encode (d.integral .zero)))) w=_
    rw[hd];dsimp only;rw[if_pos hq];rfl
   rw[e];rfl
  ·have e : ∃ y w', (Extern.MathFloor.toIntegral "math.archTrunc" .zero #[.float .f64 x]).run prog w = .ok (.float .f64 y) w' ∧ Bw w w' := by
    change ∃y w',Sem.run prog (match FloatKind.f64.decode x with | .nan s t=>_ | d=>pure (Value.float .f64 (FloatKind.f64.encode (d.integral .zero)))) w=_/\_
    rw[hd];dsimp only;rw[if_neg hq];simp only[Sem.run_bind,run_choose_drew]
    split
    ·exact⟨_,w,rfl,Br⟩
    exact⟨_,w.drew,rfl,Br.drew⟩
   obtain⟨y,w',e,hB⟩:=e;exact⟨y,w',by rw[e];rfl,λh=>absurd hn h,hB⟩
theorem MV(w:World)(x:Nat):Calls prog 117 #[.float .f64 x] w λe w'=>∃y,e=.returned (.float .f64 y)/\(¬PO x->y=kU x/\w'=w)/\Bw w w':=by
 obtain⟨y,w1,hc,hy,hB⟩:=Cj w x;have HY:=Lh (bfy hy hB);clear hy hB;obtain⟨V,hV⟩:=Nm (Value.float .f64 y);rw[<-hV]at hc;have HV:=Lh hV;clear hV;go_enter func117,ntmps117;go_wp2_with(fail);go_ret;exact⟨y,by rw[HV.out];rfl,HY.out.1,HY.out.2⟩
theorem LH(w:World)(x:Nat):(callFunc 139 #[.float .f64 x]).run prog w=.ok (.value (.int .u64 (x:Int))) w:=by
 rw[run_callFunc_extern (P:=prog) (e:=Extern.MathFloatBits.float64bits) func139 (by kernel_rfl) (by kernel_rfl) (by kernel_rfl) (by kernel_rfl)]
 rfl
theorem LJ(w:World)(x:Nat):(callFunc 138 #[.int .u64 (x:Int)]).run prog w=.ok (.value (.float .f64 x)) w:=by
 rw[run_callFunc_extern (P:=prog) (e:=Extern.MathFloatBits.float64frombits) func138 (by kernel_rfl) (by kernel_rfl) (by kernel_rfl) (by kernel_rfl)]
 rfl
theorem PP(w:World)(x:Nat):Calls prog 118 #[.float .f64 x] w λe w'=>e=.returned (.float .f64 (vX x))/\w'=w:=by
 have h1:=λw=>LH w x;have h3:=λw=>LJ w (vX x);have h2:bits .andNot .u64 (x:Int) 9223372036854775808=((vX x:Nat):Int):=NG x;obtain⟨y,hy⟩:=Nm (vX x);rw[<-hy]at h2 h3 ⊢;clear hy;go_enter func118,ntmps118;go_wp2_with(fail);go_ret;exact⟨rfl,rfl⟩
def QM(x:Nat):Bool:=double.order (vX x) 4742290407621132288==some .lt || double.order (vX x) 4742290407621132288==some .eq
def Sd(x y:Nat):Bool:=double.order x y==some .eq
theorem Ha(t:TypeId)(x:Nat)(w:World):(binOp .leq t (.float .f64 (vX x)) (.float .f64 4742290407621132288)).run prog w=.ok (.bool (QM x)) w:=rfl
theorem Qb(t:TypeId)(x y:Nat)(w:World):(binOp .eql t (.float .f64 x) (.float .f64 y)).run prog w=.ok (.bool (Sd x y)) w:=rfl
theorem Ky(x:Nat):zF x↔Sd x (kU x)=true/\QM x=true:=by
 constructor
 ·rintro⟨n,h1,h2,hn⟩;have g1:QM x=true:=by
   have:=BI (P:=prog) (t:=0) (w:=default) (NS hn) wK;rw[Ha]at this;injection this with this
   injection this with this
   rw[this];exact bfr (by omega)
  obtain⟨_,m,_,_,_,hiff,hun⟩:=y8 (M:=1073741824) (by decide) wK g1
  have:=hun n hn;subst this;exact⟨hiff.2 hn,g1⟩
 rintro⟨g0,g1⟩;obtain⟨_,m,_,h1,h2,hiff,_⟩:=y8 (M:=1073741824) (by decide) wK g1
 exact⟨m,h1,h2,hiff.1 g0⟩
theorem FT {x:Nat}(h:zF x):¬PO x:=by
 rintro⟨s,t,hn⟩;obtain⟨n,_,_,s',m,i,hr,_⟩:=h;rw[hn]at hr;cases hr
theorem zY(w:World)(x:Nat)(h:zF x):Calls prog 92 #[.float .f64 x] w λe w'=>e=.returned (.bool true)/\w'=w:=by
 obtain⟨g0,g1⟩:=(Ky x).1 h;have HN:=Lh (FT h);have HT:=Lh (MV w x);have HA:=Lh (PP w x);have e0:=λt w=>Qb t x (kU x) w;have e1:=λt w=>Ha t x w;rw[g0]at e0;rw[g1]at e1;obtain⟨V,hV⟩:=Nm (Value.float .f64 x);obtain⟨VT,VK⟩:=Nm (Value.float .f64 (kU x));obtain⟨VA,Xo⟩:=Nm (Value.float .f64 (vX x));have hgd:∀op t o1 o2 w,(eqGuard op t o1 o2 V VT).run prog w=.ok () w:=λop t o1 o2 w=>by rw[hV,VK];cases op <;> rfl
 rw[<-hV]at HT HA e0 ⊢;rw[<-VK]at e0;rw[<-Xo]at e1 HA;have HV:=Lh VK;clear hV VK Xo h g0 g1;go_enter func92,ntmps92;go_wp2_with(fail);refine HT.out.mono ?_;rintro e w1 ⟨y,rfl,hy,_⟩;obtain⟨rfl,rfl⟩:=hy HN.out;rw[<-HV.out];clear hy;dsimp only;go_wp2_with(fail);refine HA.out.mono ?_;rintro e w1 ⟨rfl,rfl⟩;dsimp only;go_wp2_with(fail);go_ret;exact⟨rfl,rfl⟩
def dw(z:Value)(u v:Int):Prop:=lU z u v/\mr u v
theorem dw.parts {z:Value} {u v:Int}(h:dw z u v):∃p q,z=.complex .f64 p q/\zF p/\zF q:=by
 obtain⟨⟨p,q,rfl,h1,h2⟩,h3⟩:=h;unfold mr at h3;exact⟨p,q,rfl,⟨u,by omega,by omega,h1⟩,⟨v,by omega,by omega,h2⟩⟩
theorem tV(w:World)(z:Value)(u v:Int)(h:dw z u v):Calls prog 60 #[z] w λe w'=>e=.returned (.bool true)/\w'=w:=by
 obtain⟨p,q,rfl,h1,h2⟩:=h.parts;have H1:=Lh (zY w p h1);have H2:=Lh (zY w q h2);clear h h1 h2;go_enter func60,ntmps60;go_wp2_with(fail);refine H1.out.mono ?_;rintro e w1 ⟨rfl,rfl⟩;dsimp only;go_wp2_with(fail);refine H2.out.mono ?_;rintro e w1 ⟨rfl,rfl⟩;dsimp only;go_wp2_with(fail);go_ret;exact⟨rfl,rfl⟩
def fU:Value:=.complex .f64 0 0
def QW(a b:Int):Value:=.complex .f64 (F4 a) (F4 b)
def PN(a b:Int):Value:=if mr a b then QW a b else fU
def P9(a b:Int):Int:=if mr a b then 0 else 20
theorem JU {a b:Int}(h:mr a b):dw (QW a b) a b:=⟨lU.of a b h,h⟩
theorem yo:lU fU 0 0:=⟨_,_,rfl,xO,xO⟩
theorem gL:dw fU 0 0:=⟨yo,by unfold mr;omega⟩
theorem QY(w:World)(a b:Int):Calls prog 162 #[.int .i64 a,.int .i64 b] w λe w'=>e=.returned (.tuple #[PN a b,.int .i64 (P9 a b)])/\w'=w:=by
 by_cases hin:mr a b
 ·rw[PN,P9,if_pos hin,if_pos hin,QW];obtain⟨fa,hfa⟩:=Nm (Value.float .f64 (F4 a));obtain⟨fb,Zi⟩:=Nm (Value.float .f64 (F4 b));obtain⟨z2,hz2⟩:=Nm (Value.complex .f64 (F4 a) (F4 b));have hca:∀w,(convert 3 91 (.int .i64 a)).run prog w=.ok fa w:=λw=>by rw[hfa];exact jP w underlying3 underlying91
  have hcb:∀w,(convert 3 91 (.int .i64 b)).run prog w=.ok fb w:=λw=>by rw[Zi];exact jP w underlying3 underlying91
  have hcc:∀ts t w,(Builtin.complex_ ts t #[fa,fb]).run prog w=.ok z2 w:=λts t w=>by rw[hfa,Zi,hz2];exact run_complex w ts t .f64 _ _
  rw[<-hz2];unfold mr at hin;obtain⟨h1,h2,h3,h4⟩:=hin;have g1:¬a < -1073741824:=by omega
  have g2:¬(1073741824:Int)<a:=by omega
  have g3:¬b < -1073741824:=by omega
  have g4:¬(1073741824:Int)<b:=by omega
  clear hfa Zi hz2 h1 h2 h3 h4;go_enter func162,ntmps162;go_wp2_with(fail);refine bodyPost_ret (results_tmp2 rfl _ _ _) rfl ?_;exact⟨rfl,rfl⟩
 rw[PN,P9,if_neg hin,if_neg hin,fU];have hcase:a < -1073741824∨(¬a < -1073741824/\(1073741824:Int)<a)∨(¬a < -1073741824/\¬(1073741824:Int)<a/\b < -1073741824)∨(¬a < -1073741824/\¬(1073741824:Int)<a/\¬b < -1073741824/\(1073741824:Int)<b):=by
  unfold mr at hin;omega
 clear hin;rcases hcase with g1 | ⟨g1,g2⟩ | ⟨g1,g2,g3⟩ | ⟨g1,g2,g3,g4⟩
 all_goals
  go_enter func162,ntmps162;go_wp2_with(fail);refine bodyPost_ret (results_tmp2 rfl _ _ _) rfl ?_;exact⟨rfl,rfl⟩
theorem Gu:jM 4607182418800017408 1:=⟨false,4503599627370496,-52,by kernel_rfl,by decide+kernel⟩
theorem CY:jM 13830554455654793216 (-1):=⟨true,4503599627370496,-52,by kernel_rfl,by decide+kernel⟩
theorem Ls(q:Int):bits .and .i64 q 3=q % 4:=by
 have e1:BitVec.ofInt 64 3=BitVec.ofNat 64 (2 ^ 2-1):=rfl;show IntKind.i64.wrap ((BitVec.ofInt 64 q &&& BitVec.ofInt 64 3).toNat:Int)=_;rw[e1,BitVec.toNat_and,BitVec.toNat_ofNat,show(2 ^ 2-1) % 2 ^ 64=2 ^ 2-1 by decide,Nat.and_two_pow_sub_one_eq_mod,BitVec.toNat_ofInt]
 rw[IntWalk.i64_in _ (by omega)]
 omega
theorem PL(w:World)(q:Int):Calls prog 145 #[.int .i64 q] w λe w'=>∃z,e=.returned z/\lU z (kZ q).1 (kZ q).2/\w'=w:=by
 have h:=Ls q;obtain⟨r,hr⟩:=Nm (q % 4);rw[<-hr]at h;have hr4:r=0∨r=1∨r=2∨r=3:=by omega
 have HT:=Lh hr;clear hr;rcases hr4 with rfl | rfl | rfl | rfl
 ·go_enter func145,ntmps145;go_wp2_with(fail);go_ret;refine⟨_,rfl,⟨_,_,rfl,?_⟩,rfl⟩;rw[kZ,if_pos HT.out.symm];exact⟨Gu,xO⟩
 ·go_enter func145,ntmps145;go_wp2_with(fail);go_ret;refine⟨_,rfl,⟨_,_,rfl,?_⟩,rfl⟩;rw[kZ,<-HT.out];exact⟨xO,Gu⟩
 ·go_enter func145,ntmps145;go_wp2_with(fail);go_ret;refine⟨_,rfl,⟨_,_,rfl,?_⟩,rfl⟩;rw[kZ,<-HT.out];exact⟨CY,xO⟩
 go_enter func145,ntmps145;go_wp2_with(fail);go_ret;refine⟨_,rfl,⟨_,_,rfl,?_⟩,rfl⟩;rw[kZ,<-HT.out];exact⟨xO,CY⟩
theorem Ms(w:World)(z:Value)(u v:Int)(h:dw z u v):Calls prog 35 #[z] w λe w'=>e=.returned (.tuple #[.int .i64 u,.int .i64 v])/\w'=w:=by
 have HR:=Lh (tV w z u v h);obtain⟨⟨p,q,rfl,h1,h2⟩,h3⟩:=h;unfold mr at h3;have hcu:∀w,(convert 91 3 (.float .f64 p)).run prog w=.ok (.int .i64 u) w:=λw=>gP w (by rw[underlying91];rfl) underlying3 h1 (by simp[IntKind.min,IntKind.signed,IntKind.bits];omega) (by simp[IntKind.max,IntKind.signed,IntKind.bits];omega)
 have hcv:∀w,(convert 91 3 (.float .f64 q)).run prog w=.ok (.int .i64 v) w:=λw=>gP w (by rw[underlying91];rfl) underlying3 h2 (by simp[IntKind.min,IntKind.signed,IntKind.bits];omega) (by simp[IntKind.max,IntKind.signed,IntKind.bits];omega)
 clear h1 h2 h3;go_enter func35,ntmps35;go_wp2_with(fail);refine HR.out.mono ?_;rintro e w1 ⟨rfl,rfl⟩;dsimp only;go_wp2_with(fail);refine bodyPost_ret (results_tmp2 rfl _ _ _) rfl ?_;exact⟨rfl,rfl⟩
theorem Mt(w:World)(z:Value)(u v:Int)(h:lU z u v)(hu:u.natAbs<9223372036854775808)(hv:v.natAbs<9223372036854775808):
  Calls prog 157 #[z] w λe w'=>e=.returned (.tuple #[PN u v,.int .i64 (P9 u v)])/\w'=w:=by
 obtain⟨p,q,rfl,h1,h2⟩:=h;have hcu:∀w,(convert 91 3 (.float .f64 p)).run prog w=.ok (.int .i64 u) w:=λw=>gP w (by rw[underlying91];rfl) underlying3 h1 (by simp[IntKind.min,IntKind.signed,IntKind.bits];omega) (by simp[IntKind.max,IntKind.signed,IntKind.bits];omega)
 have hcv:∀w,(convert 91 3 (.float .f64 q)).run prog w=.ok (.int .i64 v) w:=λw=>gP w (by rw[underlying91];rfl) underlying3 h2 (by simp[IntKind.min,IntKind.signed,IntKind.bits];omega) (by simp[IntKind.max,IntKind.signed,IntKind.bits];omega)
 have HO:=Lh (QY w u v);obtain⟨V,hV⟩:=Nm (PN u v);obtain⟨E,hE⟩:=Nm (P9 u v);rw[<-hV,<-hE]at HO ⊢;clear h1 h2 hu hv hV hE;go_enter func157,ntmps157;go_wp2_with(fail);refine HO.out.mono ?_;rintro e w1 ⟨rfl,rfl⟩;dsimp only;go_wp2_with(fail);refine bodyPost_ret (results_tmp2 rfl _ _ _) rfl ?_;exact⟨rfl,rfl⟩
def KN(w:World)(a b:Int)(e:Ending)(w':World):Prop:=e=.returned (.tuple #[PN a b,.int .i64 (P9 a b)])/\w'=w
theorem PR(w:World)(x y:Value)(u v a b:Int)(hx:dw x u v)(hy:dw y a b):Calls prog 144 #[x,y] w (KN w (u+a) (v+b)):=by
 have H1:=Lh (λw=>tV w x u v hx);have H2:=Lh (λw=>tV w y a b hy);obtain⟨⟨p,q,hxe,h1,h2⟩,h3⟩:=hx;obtain⟨⟨r,s,hye,k1,k2⟩,k3⟩:=hy;unfold mr at h3 k3;obtain⟨t1,t2,f1,f2,Al⟩:=BF (P:=prog) (t:=51) h1 k1 h2 k2 (by omega) (by omega)
 have hop:∀w,(binOp .add 51 x y).run prog w=.ok (.complex .f64 t1 t2) w:=λw=>by rw[hxe,hye];exact Al w
 have HP:=Lh (λw=>Mt w (.complex .f64 t1 t2) (u+a) (v+b) ⟨_,_,rfl,f1,f2⟩ (by omega) (by omega))
 obtain⟨Z,hZ⟩:=Nm (Value.complex .f64 t1 t2);simp only[<-hZ]at hop HP;unfold KN;obtain⟨V,hV⟩:=Nm (PN (u+a) (v+b));obtain⟨E,hE⟩:=Nm (P9 (u+a) (v+b));simp only[<-hV,<-hE]at HP ⊢;clear hxe hye h1 h2 h3 k1 k2 k3 f1 f2 Al hZ hV hE;go_enter func144,ntmps144;go_wp2_with(fail);refine(H1.out _).mono ?_;rintro e w1 ⟨rfl,rfl⟩;dsimp only;go_wp2_with(fail);refine(H2.out _).mono ?_;rintro e w1 ⟨rfl,rfl⟩;dsimp only;go_wp2_with(fail);refine(HP.out _).mono ?_;rintro e w1 ⟨rfl,rfl⟩;dsimp only;go_wp2_with(fail);refine bodyPost_ret (results_tmp2 rfl _ _ _) rfl ?_;exact⟨rfl,rfl⟩
end Go.Proofs.YtjeeghafachebaaGreat
