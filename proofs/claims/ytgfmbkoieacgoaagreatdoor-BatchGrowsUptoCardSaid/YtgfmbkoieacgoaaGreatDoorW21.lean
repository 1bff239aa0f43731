/- 21. -/
import Derived.Test.YtgfmbkoieacgoaaGreatDoorW1
import Derived.Test.YtgfmbkoieacgoaaGreatDoorW14
import Derived.Test.YtgfmbkoieacgoaaGreatDoorW20
set_option maxRecDepth 100000
set_option maxHeartbeats 4000000
namespace Go.Proofs.YtgfmbkoieacgoaaGreatDoor
open Go Go.RowKit Go.Proofs.Tryz
theorem WM {q:bu} {key:List (BitVec 8)} {t:Int}(a:q.rightB=true)(c:nameB key=true)(b:0<=t)(d:t<=1099511627776):rX q key t≠[]:=by
 have e:lm q key t=true:=by rw[lm,a,c,bfr ⟨b,d⟩];rfl
 rw[rX,if_pos e]
 split
 ·simp
 intro h;have k:=rU a b;have j:=congrArg List.length h;rw[zk,List.length_nil]at j;omega
theorem QN(w:World)(q:bu)(x:bf)(hl:x.key.length<=1000000)(hq:q.rightB=true)(hx:x.rightB=true):
  Calls prog 178 #[.agg q.cells,.agg x.cells] w (Below0 w (.bool (BD q x))):=by
 have mixed:prog.follows .mixedOrders=true:=by kernel_rfl
 obtain⟨r,hr⟩:=Nm (BD q x);rw[<-hr];obtain⟨o,d⟩:=Nm ((w.alloc (.cells q.cells 23)).alloc (.cells x.cells 34));obtain⟨qb,I⟩:=Nm (w.heap.size);obtain⟨D,p⟩:=Nm (w.heap.size+1);have S:Hid (dB o qb q/\dH o D x/\Bw w o):=by rw[d,I,p];exact Lh (KW w q x)
 obtain⟨l,J⟩:=Nm (rX q x.key x.lo);obtain⟨c1,c2,c3,c4,c5,c6,c7⟩:=bU hx;have L:l≠[]:=by rw[J];exact WM hq c1 (by omega) (by omega)
 have m:l.length<=1000000:=by
  have:=Gi q x.key x.lo;rw[J];omega
 obtain⟨U,Yi⟩:=Nm (Value.agg q.cells);obtain⟨Y,YY⟩:=Nm (Value.agg x.cells);obtain⟨rc,E⟩:=Nm (decide (x∈l));have uH:Hid (∀b,Calls prog 184 #[U,Sv x.key,.int .i64 x.lo] b (FI b l)):=by
  rw[J,Yi];exact Lh (λb=>VL b q x.key x.lo hl)
 have Iz:Hid (∀b a c,fZ b a l->Calls prog 216 #[.slice a l.length c,Y] b (Below0 b (.bool rc))):=by
  rw[E,YY];exact Lh (λb a c h=>CU b a c l x h L m)
 have Z:Hid (r=if q.kind=3 then decide (q.size<=x.hi-x.lo)else rc):=by
  rw[hr,BD,E,J];exact Lh rfl
 have aa:=DT hq;clear hr E J L m hl hq hx c1 c2 c3;obtain⟨kind,size,j,s,agg,kq⟩:=q;obtain⟨xk,M,xh⟩:=x;have Zi:Hid (U=.agg #[.int .i64 kind,.int .i64 size,.int .i64 j,.int .i64 s,.int .i64 agg,.int .i64 kq]):=Lh Yi;have eF:Hid (Y=.agg #[Sv xk,.int .i64 M,.int .i64 xh]):=Lh YY;clear Yi YY;have HQ:Hid (∀b,Bw o b->D6 b qb kind size j s agg kq):=Lh (λb h=>(S.out.1.below h).d6);have HW:Hid (∀b,Bw o b->D3 b D xk M xh):=Lh (λb h=>(S.out.2.1.below h).d3);have N:=Lh S.out.2.2;have O:(w.alloc (.cells #[.int .i64 kind,.int .i64 size,.int .i64 j,.int .i64 s,.int .i64 agg,.int .i64 kq] 23)).heap.size=w.heap.size+1:=bg w _;unfold bu.cells bf.cells at d ⊢;simp only at d uH Z c4 c5 c6 c7 aa;clear S;obtain⟨d0,d1,d2,d3,d4,d5⟩:=HQ.out o Br;obtain⟨e0,e1,e2⟩:=HW.out o Br;by_cases hk:kind=3
 ·subst hk;obtain rfl:r=decide (size<=xh - M):=by rw[Z.out,if_pos rfl]
  go_enter func178,ntmps178;go_upto_region 1 with fail;rw[<-d,<-p,<-I];clear d p I O;go_wp2_with fail;go_ret;exact⟨rfl,N.out⟩
 have ab:(kind==3)=false:=by simpa using hk
 obtain rfl:r=rc:=by rw[Z.out,if_neg hk]
 clear hk Z;go_enter func178,ntmps178;go_upto_region 1 with fail;rw[<-d,<-p,<-I];clear d p I O;go_upto_region 3 with fail;clear d0 d1 d2 d3 d4 d5 e0 e1 e2 ab;have ac:Hid (Bw o o.drew):=Lh (Below.refl _ o).drew;refine wp_region_skip_frame (λi=>([]:List Nat).contains i) (by kernel_rfl) (NoF [none,none,none,none]) [] (V4 (U::(Value.pointer (some ⟨D,0,none⟩))::Sv xk::(Value.pointer (some ⟨D,1,none⟩))::(Value.int .i64 M)::undef::Y::([.bool r,.bool r]:List Value)) 5 (λ_ b v=>∃u y,v=.slice u l.length y/\l.length<=y/\fZ b u l) 99 (λ_ _ _=>True) 99 (λ_ _ _=>True) 99 (λ_ _ _=>True)) (λ_ b=>Bw o b) (λw b=>Bw w b) (wP _ (λk w b v h ha=>by obtain⟨u,y,h1,h2,h3⟩:=ha;exact⟨u,y,h1,h2,h3.below h⟩) (λ_ _ _ _ _ h=>h) (λ_ _ _ _ _ h=>h) (λ_ _ _ _ _ h=>h)) (by kernel_rfl) (by kernel_rfl) (by kernel_rfl) ac.out (λ_=>⟨rfl,rfl,rfl,rfl,rfl,rfl,rfl,rfl,rfl,trivial⟩) (λ_ h=>by simp at h) ?_ ?_
 ·refine ⟨?_,?_,?_,?_,?_,?_,?_,?_,?_,trivial⟩<;>intro _ _ a b n F z K Q<;>replace F:=Lh F<;>replace z:=Lh z
  ·have q2:=FaA F 2 qb 0;obtain⟨d0,d1,d2,d3,d4,d5⟩:=HQ.out _ n;go_step;exact Q _ _ Zi.out.symm n Br
  have q3:=FaA F 3 D 0;rotate_left;have ad:=Pa a 17 D 0 z.out.1;obtain⟨e0,e1,e2⟩:=HW.out _ n;rotate_left;have q3:=FaA F 3 D 0;rotate_left;have ae:=Pa a 19 D 1 z.out.1;obtain⟨e0,e1,e2⟩:=HW.out _ n;rotate_left
  ·have af:=Ep a 16 U z.out.1;have ag:=Ep a 18 (Sv xk) z.out.2.1;have ah:=Pi a 20 M z.out.2.2.1;go_step;refine(uH.out b).mono ?_;rintro e w3 ⟨u,y,rfl,hc,hA,R⟩;exact Q _ _ ⟨u,y,rfl,hc,hA⟩ (Tb n R) R
  ·have q3:=FaA F 3 D 0;obtain⟨e0,e1,e2⟩:=HW.out _ n;go_step;exact Q _ _ eF.out.symm n Br
  ·obtain ⟨p0,_,_⟩:=z.out;obtain⟨u,y,hv,hc,hA⟩:=(show ∃u y,a.eval (.tmp 21)=.slice u l.length y/\l.length<=y/\fZ b u l from p0);have ai:=ev_of hv;have aj:=Ep a 22 Y z.out.2.1;have HS:=Iz.out b u y hA;clear hA hv hc;go_step;refine HS.mono ?_;rintro e w3 ⟨rfl,R⟩;exact Q _ _ rfl (Tb n R) R
  have ak:=Ep a 23 (.bool r) z.out.1;rotate_left
  all_goals(go_step;exact Q _ _ rfl n Br)
 intro vs w2 n m hV
 match vs,m,hV with
 | [v0,v1,v2,v3,v4,v5,v6,v7,v8],_,hV=>
  obtain rfl:v8=.bool r:=(hV 8 4 v8 rfl rfl);clear hV;simp only[putsL,bf7,bf1];simp only[Act.put,bfw,bfu,bfv];have HZ:=Lh (Tb N.out n);clear n;go_wp2_with fail;go_ret;exact⟨rfl,HZ.out⟩
theorem MO(w:World)(q:bu)(x:bn)(hg:di w x)(hl:x.p.w.key.length<=1000000)(hn:x.p.a.top.length<=1000000)(hq:q.rightB=true):
  Calls prog 131 #[.agg q.cells,.agg x.cells] w (Below0 w (.bool (jC q x.p))):=by
 obtain⟨r,hr⟩:=Nm (jC q x.p);rw[<-hr];obtain⟨l,j⟩:=Nm ((w.alloc (.cells q.cells 23)).alloc (.cells x.cells 131));obtain⟨qb,Q⟩:=Nm (w.heap.size);obtain⟨pb,m⟩:=Nm (w.heap.size+1);have H1:Hid (dB l qb q/\dw l pb x/\Bw w l):=by rw[j,Q,m];exact Lh (KT w q x)
 have R:=Lh H1.out.2.2;obtain⟨ra,S⟩:=Nm (x.p.w.rightB);obtain⟨rb,ad⟩:=Nm (BD q x.p.w);obtain⟨rc,ae⟩:=Nm (x.p.a.rightB q);have YO:Hid (∀c,Bw l c->Calls prog 62 #[.agg x.p.w.cells] c (Below0 c (.bool ra))):=by
  rw[S];exact Lh (λc _=>gQ c x.p.w hl)
 have Z8:Hid (ra=true->∀c,Bw l c->Calls prog 178 #[.agg q.cells,.agg x.p.w.cells] c (Below0 c (.bool rb))):=by
  rw[S,ad];exact Lh (λh c _=>QN c q x.p.w hl hq h)
 have uI:Hid (∀c,Bw l c->Calls prog 140 #[.agg q.cells,.agg (bJ x.p.a.n x.p.a.a x.tv x.z)] c (Below0 c (.bool rc))):=by
  rw[ae];exact Lh (λc d=>kM c q x.p.a x.tv x.z ((hg.1.below H1.out.2.2).below (d.mono (bfx _))) hg.2 hn)
 have U:Hid (r=(ra && (rb && (decide (0<x.p.a.n) && rc)))):=by
  rw[hr,jC,S,ad,ae];exact Lh rfl
 clear hr S ad ae hg hl hn hq;obtain⟨ab,size,O,ac,agg,kq⟩:=q;obtain⟨⟨⟨xk,xl,xh⟩,⟨n,a,top,u,v⟩,rd⟩,tv,z,ht,hz⟩:=x;have Y:Hid (∀c,Bw l c->D6 c qb ab size O ac agg kq):=Lh (λc h=>(H1.out.1.below h).d6);have Z:Hid (∀c,Bw l c->D8 c pb ⟨⟨⟨xk,xl,xh⟩,⟨n,a,top,u,v⟩,rd⟩,tv,z,ht,hz⟩):=Lh (λc h=>(H1.out.2.1.below h).d8);have aa:(w.alloc (.cells #[.int .i64 ab,.int .i64 size,.int .i64 O,.int .i64 ac,.int .i64 agg,.int .i64 kq] 23)).heap.size=w.heap.size+1:=bg w _;unfold bu.cells bn.cells at j ⊢;unfold bu.cells bf.cells at Z8;unfold bf.cells at YO;unfold bu.cells bJ at uI;simp only at j YO Z8 uI U;clear H1
 cases ra with
 | false=>
  obtain rfl:r=false:=U.out;clear U Z8 uI;go_enter func131,ntmps131;go_upto_region 1 with fail;rw[<-j,<-m,<-Q];clear j m Q aa;obtain⟨o,s,d2,d3,d4,y⟩:=Y.out l Br;obtain⟨D,E,F,I,J,K,L,M⟩:=Z.out l Br;go_wp2_with fail;refine(YO.out l Br).mono ?_;rintro e N ⟨rfl,d⟩;have b:=Lh d;clear d o s d2 d3 d4 y D E F I J K L M;dsimp only;go_wp2_with fail;go_ret;exact⟨rfl,Tb R.out b.out⟩
 | true=>
 have YX:=Lh (Z8.out rfl);clear Z8
 cases rb with
 | false=>
  obtain rfl:r=false:=U.out;clear U uI;go_enter func131,ntmps131;go_upto_region 1 with fail;rw[<-j,<-m,<-Q];clear j m Q aa;obtain⟨o,s,d2,d3,d4,y⟩:=Y.out l Br;obtain⟨D,E,F,I,J,K,L,M⟩:=Z.out l Br;go_wp2_with fail;refine(YO.out l Br).mono ?_;rintro e N ⟨rfl,d⟩;have b:=Lh d;clear d o s d2 d3 d4 y D E F I J K L M;obtain⟨o,s,d2,d3,d4,y⟩:=Y.out N b.out;obtain⟨D,E,F,I,J,K,L,M⟩:=Z.out N b.out;dsimp only;go_wp2_with fail;refine(YX.out N b.out).mono ?_;rintro e w3 ⟨rfl,d⟩;have k:=Lh (Tb b.out d);clear d o s d2 d3 d4 y D E F I J K L M;dsimp only;go_wp2_with fail;go_ret;exact⟨rfl,Tb R.out k.out⟩
 | true=>
 by_cases h0:0<n
 ·obtain rfl:r=rc:=by rw[U.out,bfr h0];rfl
  clear U;go_enter func131,ntmps131;go_upto_region 1 with fail;rw[<-j,<-m,<-Q];clear j m Q aa;obtain⟨o,s,d2,d3,d4,y⟩:=Y.out l Br;obtain⟨D,E,F,I,J,K,L,M⟩:=Z.out l Br;go_wp2_with fail;refine(YO.out l Br).mono ?_;rintro e N ⟨rfl,d⟩;have b:=Lh d;clear d o s d2 d3 d4 y D E F I J K L M;obtain⟨o,s,d2,d3,d4,y⟩:=Y.out N b.out;obtain⟨D,E,F,I,J,K,L,M⟩:=Z.out N b.out;dsimp only;go_wp2_with fail;refine(YX.out N b.out).mono ?_;rintro e w3 ⟨rfl,d⟩;have k:=Lh (Tb b.out d);clear d o s d2 d3 d4 y D E F I J K L M;obtain⟨o,s,d2,d3,d4,y⟩:=Y.out w3 k.out;obtain⟨D,E,F,I,J,K,L,M⟩:=Z.out w3 k.out;dsimp only;go_wp2_with fail;refine(uI.out w3 k.out).mono ?_;rintro e w4 ⟨rfl,d⟩;have af:=Lh (Tb k.out d);clear d o s d2 d3 d4 y D E F I J K L M;dsimp only;go_wp2_with fail;go_ret;exact⟨rfl,Tb R.out af.out⟩
 have ag:decide (0<n)=false:=bfq h0;obtain rfl:r=false:=by rw[U.out,ag];rfl
 clear U uI h0;go_enter func131,ntmps131;go_upto_region 1 with fail;rw[<-j,<-m,<-Q];clear j m Q aa;obtain⟨o,s,d2,d3,d4,y⟩:=Y.out l Br;obtain⟨D,E,F,I,J,K,L,M⟩:=Z.out l Br;go_wp2_with fail;refine(YO.out l Br).mono ?_;rintro e N ⟨rfl,d⟩;have b:=Lh d;clear d o s d2 d3 d4 y D E F I J K L M;obtain⟨o,s,d2,d3,d4,y⟩:=Y.out N b.out;obtain⟨D,E,F,I,J,K,L,M⟩:=Z.out N b.out;dsimp only;go_wp2_with fail;refine(YX.out N b.out).mono ?_;rintro e w3 ⟨rfl,d⟩;have k:=Lh (Tb b.out d);clear d o s d2 d3 d4 y D E F I J K L M;obtain⟨o,s,d2,d3,d4,y⟩:=Y.out w3 k.out;obtain⟨D,E,F,I,J,K,L,M⟩:=Z.out w3 k.out;dsimp only;go_wp2_with fail;go_ret;exact⟨rfl,Tb R.out k.out⟩
theorem QP(w:World)(q:bu)(x:bn)(mark:Int)(hl:x.p.w.key.length<=1000000):
  Calls prog 132 #[.agg q.cells,.agg x.cells,.int .i64 mark] w (Below0 w (.bool (openB q x.p mark))):=by
 have mixed:prog.follows .mixedOrders=true:=by kernel_rfl
 obtain⟨r,hr⟩:=Nm (openB q x.p mark);rw[<-hr];obtain⟨j,d⟩:=Nm ((w.alloc (.cells q.cells 23)).alloc (.cells x.cells 131));obtain⟨qb,Z⟩:=Nm (w.heap.size);obtain⟨pb,k⟩:=Nm (w.heap.size+1);have H1:Hid (dB j qb q/\dw j pb x/\Bw w j):=by rw[d,Z,k];exact Lh (KT w q x)
 have aa:=Lh H1.out.2.2;obtain⟨ra,ae⟩:=Nm (kD q x.p.w mark);obtain⟨J,af⟩:=Nm (kG x.p.w mark);have YO:Hid (∀b,Bw j b->Calls prog 179 #[.agg q.cells,.agg x.p.w.cells,.int .i64 mark] b (Below0 b (.bool ra))):=by
  rw[ae];exact Lh (λb _=>yJ b q x.p.w mark hl)
 obtain⟨VW,YY⟩:=Nm (Value.agg x.p.w.cells);have YX:Hid (∀b,Bw j b->Calls prog 180 #[VW,.int .i64 mark] b (Below0 b (.bool J))):=by
  rw[af,YY];exact Lh (λb _=>yK b x.p.w mark hl)
 have R:Hid (r=(!ra && (decide (0<=x.p.r/\x.p.r<=1073741824) && (J==decide (0<x.p.r))))):=by
  rw[hr,openB,ae,af];exact Lh rfl
 clear hr ae af hl;obtain⟨ac,size,L,ad,agg,kq⟩:=q;obtain⟨⟨⟨xk,xl,xh⟩,⟨n,a,ah,u,v⟩,rd⟩,tv,z,ht,hz⟩:=x;have HQ:Hid (∀b,Bw j b->D6 b qb ac size L ad agg kq):=Lh (λb h=>(H1.out.1.below h).d6);have HP:Hid (∀b,Bw j b->D8 b pb ⟨⟨⟨xk,xl,xh⟩,⟨n,a,ah,u,v⟩,rd⟩,tv,z,ht,hz⟩):=Lh (λb h=>(H1.out.2.1.below h).d8);have ab:(w.alloc (.cells #[.int .i64 ac,.int .i64 size,.int .i64 L,.int .i64 ad,.int .i64 agg,.int .i64 kq] 23)).heap.size=w.heap.size+1:=bg w _;unfold bu.cells bn.cells at d ⊢;unfold bu.cells bf.cells at YO;have eF:Hid (VW=.agg #[Sv xk,.int .i64 xl,.int .i64 xh]):=Lh YY;clear YY;simp only at d YO R;clear H1
 cases ra with
 | true=>
  obtain rfl:r=false:=R.out;clear R YX;go_enter func132,ntmps132;go_upto_region 1 with fail;rw[<-d,<-k,<-Z];clear d k Z ab;obtain⟨M,N,d2,d3,d4,O⟩:=HQ.out j Br;obtain⟨m,o,s,y,D,E,F,I⟩:=HP.out j Br;go_wp2_with fail;refine(YO.out j Br).mono ?_;rintro e Q ⟨rfl,l⟩;have c:=Lh l;clear l M N d2 d3 d4 O m o s y D E F I;dsimp only;go_wp2_with fail;go_ret;exact⟨rfl,Tb aa.out c.out⟩
 | false=>
 by_cases h0:rd<0
 ·obtain rfl:r=false:=by rw[R.out,bfq (by omega)];rfl
  clear R YX;go_enter func132,ntmps132;go_upto_region 1 with fail;rw[<-d,<-k,<-Z];clear d k Z ab;obtain⟨M,N,d2,d3,d4,O⟩:=HQ.out j Br;obtain⟨m,o,s,y,D,E,F,I⟩:=HP.out j Br;go_wp2_with fail;refine(YO.out j Br).mono ?_;rintro e Q ⟨rfl,l⟩;have c:=Lh l;clear l M N d2 d3 d4 O m o s y D E F I;obtain⟨M,N,d2,d3,d4,O⟩:=HQ.out Q c.out;obtain⟨m,o,s,y,D,E,F,I⟩:=HP.out Q c.out;dsimp only;go_wp2_with fail;go_ret;exact⟨rfl,Tb aa.out c.out⟩
 have ai:decide (rd<0)=false:=bfq h0;by_cases h1:1073741824<rd
 ·obtain rfl:r=false:=by rw[R.out,bfq (by omega)];rfl
  clear R YX h0;go_enter func132,ntmps132;go_upto_region 1 with fail;rw[<-d,<-k,<-Z];clear d k Z ab;obtain⟨M,N,d2,d3,d4,O⟩:=HQ.out j Br;obtain⟨m,o,s,y,D,E,F,I⟩:=HP.out j Br;go_wp2_with fail;refine(YO.out j Br).mono ?_;rintro e Q ⟨rfl,l⟩;have c:=Lh l;clear l M N d2 d3 d4 O m o s y D E F I;obtain⟨M,N,d2,d3,d4,O⟩:=HQ.out Q c.out;obtain⟨m,o,s,y,D,E,F,I⟩:=HP.out Q c.out;dsimp only;go_wp2_with fail;go_ret;exact⟨rfl,Tb aa.out c.out⟩
 have aj:decide (1073741824<rd)=false:=bfq h1;obtain⟨S,Y7⟩:=Nm (decide (0<rd));have oL:=Lh Y7;have al:∀b,Sem.run prog (binOp .eql 4 (.bool J) (.bool S)) b=.ok (.bool (J==S)) b:=λb=>by cases J <;> cases S <;> simp[go_sem]
 have R:Hid (r=(J==S)):=by
  rw[R.out,bfr (show 0<=rd/\rd<=1073741824 by omega),<-Y7]
  exact Lh (bgw _)
 clear h0 h1 Y7;go_enter func132,ntmps132;go_upto_region 1 with fail;rw[<-d,<-k,<-Z];clear d k Z ab;obtain⟨M,N,d2,d3,d4,O⟩:=HQ.out j Br;obtain⟨m,o,s,y,D,E,F,I⟩:=HP.out j Br;go_wp2_with fail;refine(YO.out j Br).mono ?_;rintro e Q ⟨rfl,l⟩;have c:=Lh l;clear l M N d2 d3 d4 O m o s y D E F I;obtain⟨M,N,d2,d3,d4,O⟩:=HQ.out Q c.out;obtain⟨m,o,s,y,D,E,F,I⟩:=HP.out Q c.out;dsimp only;go_upto_region 3 with fail;clear M N d2 d3 d4 O m o s y D E F I ai aj;have ak:Hid (Bw j Q.drew):=Lh c.out.drew;refine wp_region_skip_frame (λi=>([]:List Nat).contains i) (by kernel_rfl) (NoF [none,none,none,none]) [] (λi_ _ _ v_=>v_=(((Value.pointer (some ⟨pb,0,none⟩))::VW::([.int .i64 mark,.bool J,.pointer (some ⟨pb,7,none⟩),.int .i64 rd,.bool S,.bool (J==S),.bool (J==S)]:List Value))).getD i_ undef) (λ_ b=>Bw j b) (λw b=>Bw w b) (λ_ _ _ _ _ _ h=>h) (by kernel_rfl) (by kernel_rfl) (by kernel_rfl) ak.out (λ_=>⟨rfl,rfl,rfl,rfl,rfl,rfl,rfl,rfl,rfl,trivial⟩) (λ_ h=>by simp at h) ?_ ?_
 ·refine ⟨?_,?_,?_,?_,?_,?_,?_,?_,?_,trivial⟩<;>intro _ _ a b U XR Y K hK<;>replace XR:=Lh XR<;>replace Y:=Lh Y
  have q4:=FaA XR 4 pb 0;rotate_left
  ·have am:=Pa a 22 pb 0 Y.out.1;obtain⟨m,o,s,y,D,E,F,I⟩:=HP.out _ U;go_step;exact hK _ _ eF.out.symm U Br
  have q2:=FiA XR 2 mark;rotate_left
  ·have an:=Ep a 23 VW Y.out.1;have ao:=Pi a 24 mark Y.out.2.1;have HS:=Lh (YX.out b U);go_step;refine HS.out.mono ?_;rintro e w3 ⟨rfl,l⟩;exact hK _ _ rfl (Tb U l) l
  have q4:=FaA XR 4 pb 0;rotate_left;have ZM:=Pa a 26 pb 7 Y.out.1;obtain⟨m,o,s,y,D,E,F,I⟩:=HP.out _ U;rotate_left
  ·have Zz:=Pi a 27 rd Y.out.1;have Y7:=oL.out;go_step;subst Y7;exact hK _ _ rfl U Br
  have Zq:=Ep a 25 (.bool J) Y.out.1;have aT:=Ep a 28 (.bool S) Y.out.2.1;rotate_left;have aU:=Ep a 29 (.bool (J==S)) Y.out.1;rotate_left
  all_goals(go_step;exact hK _ _ rfl U Br)
 intro vs Q U ag hV
 match vs,ag,hV with
 | [v0,v1,v2,v3,v4,v5,v6,v7,v8],_,hV=>
  obtain rfl:v8=.bool (J==S):=(hV 8 6 v8 rfl rfl);clear hV;simp only[putsL,bf7,bf1];simp only[Act.put,bfw,bfu,bfv];have HZ:=Lh (Tb aa.out U);clear U;go_wp2_with fail;go_ret;exact⟨by rw[R.out];rfl,HZ.out⟩
def bZ(w:World)(b:Nat)(m:Int)(pv:Value):Prop:=w.heap[b]? =some (.cells #[.int .i64 m,pv] 72 (0,0))
theorem bZ.lt {w:World} {b:Nat} {m:Int} {a:Value}(h:bZ w b m a):b<w.heap.size:=(Array.getElem?_eq_some_iff.1 h).1
theorem bZ.below {w w':World} {b:Nat} {m:Int} {a:Value}(h:bZ w b m a)(c:Bw w w'):bZ w' b m a:=(c.block b h.lt).trans h
theorem bZ.grown {w w':World} {b:Nat} {m:Int} {c:Value} {row:Option Nat}(h:bZ w b m c)(d:w.grownBy w' row)(a:some b≠row):bZ w' b m c:=(d.block b h.lt a).trans h
theorem bZ.fro {w:World} {b:Nat} {m:Int} {a:Value}(h:bZ w b m a)(i:Nat):w.frozen? ⟨b,i,none⟩=false:=by
 unfold bZ at h;simp[World.frozen?,h]
def D2(w:World)(b:Nat)(m:Int)(pv:Value):Prop:=w.cell? ⟨b,0,none⟩=some (.int .i64 m)/\w.cell? ⟨b,1,none⟩=some pv
theorem bZ.d2 {w:World} {b:Nat} {m:Int} {a:Value}(h:bZ w b m a):D2 w b m a:=by
 refine⟨?_,?_⟩ <;> (rw[cell_of_row _ _ _ _ _ _ h];rfl)
theorem bZ.set1 {w:World} {b:Nat} {m:Int} {a:Value}(h:bZ w b m a)(x:Value):bZ (w.setCell ⟨b,1,none⟩ x) b m x:=by
 unfold bZ at*;rw[setCell_eq_setRow w b 1 _ _ (0,0) _ h];exact setRow_heap w b _ _ _ _ h
theorem bZ.reset {w:World} {b:Nat} {m:Int} {a:Value}(h:bZ w b m a)(m':Int)(pv':Value):bZ (w.setRow b #[.int .i64 m',pv']) b m' pv':=setRow_heap w b _ _ _ _ h
theorem bP:(prog.info? 72).map (·.size)=some 2:=by kernel_rfl
theorem dF {m:Int} {a:Value}(h:a.oneCell'=true):(#[Value.int .i64 m,a]:Array Value).all (·.oneCell')=true:=by
 rw[Array.all_eq_true'];intro v b;simp only[List.mem_toArray,bf2,bf9,or_false]at b;rcases b with rfl | rfl
 ·rfl
 exact h
theorem KU(w:World)(q:bu)(m:Int)(a:Value):
  dB ((w.alloc (.cells q.cells 23)).alloc (.cells #[.int .i64 m,a] 72)) w.heap.size q/\
   bZ ((w.alloc (.cells q.cells 23)).alloc (.cells #[.int .i64 m,a] 72)) (w.heap.size+1) m a/\
   Bw w ((w.alloc (.cells q.cells 23)).alloc (.cells #[.int .i64 m,a] 72)):=by
 have c:=(Below.refl _ w).alloc (bfx _) (.cells q.cells 23);have b:=(Below.refl _ (w.alloc (.cells q.cells 23))).alloc (bfx _) (.cells #[.int .i64 m,a] 72);have d:(w.alloc (.cells q.cells 23)).heap.size=w.heap.size+1:=bg w _;refine⟨dB.below (bg5 w _) b,?_,Tb c b⟩;rw[<-d];exact bg5 _ _
def tY(l:List bn):Prop:=(∀x∈l,x.p.w.key.length<=1000000/\x.p.a.top.length<=1000000)/\l.length<=1000000
def okS(q:bu)(m:Int)(l:List bn)(j:Nat):Prop:=∀x,l[j]? =some x->jC q x.p=true/\openB q x.p m=true
def Xz(w:World)(q:bu)(m:Int)(l:List bn)(v:Value)(wr:World):Prop:=∃i:Nat,i<=l.length/\v=.int .i64 (i:Int)/\(∀j<i,okS q m l j)/\Bw w wr
theorem Ph {q:bu} {m:Int} {l:List bn}:(l.map bn.p).all (λp=>jC q p && openB q p m)=true↔∀j<l.length,okS q m l j:=by
 rw[bgt];constructor
 ·intro h j a x b;have:=h x.p (List.mem_map.2 ⟨x,bf3 b,rfl⟩);simpa using this
 intro h p c;obtain⟨x,b,rfl⟩:=List.mem_map.1 c;obtain⟨j,a,rfl⟩:=List.getElem_of_mem b;have:=h j a _ (bfs a);simp[this.1,this.2]
theorem wu(w:World)(q:bu)(m:Int)(pv:Value)(l:List bn)(hA:cZ w pv l)(hG:∀x∈l,di w x)(hF:tY l):
  Calls prog 88 #[.agg q.cells,.agg #[.int .i64 m,pv]] w (Below0 w (.bool (fQ q ⟨m,l.map bn.p⟩))):=by
 obtain⟨sa,sc,au,ak,al⟩:=hA.form;obtain⟨n,hN⟩:=Nm (l.length);obtain⟨P,hP⟩:=Nm (Below0 w (.bool (fQ q ⟨m,l.map bn.p⟩)));rw[<-hP];have Yk:Hid (∀wz,fQ q ⟨m,l.map bn.p⟩=false->Bw w wz->P (.returned (.bool false)) wz):=Lh (λwz h a=>by rw[hP,h];exact⟨rfl,a⟩)
 obtain⟨rp,Y7⟩:=Nm (fG q (l.map bn.p));have XY:Hid (∀wz,q.rightB=true->¬m < -1->¬1099511627776<m->¬256<n->(∀j<n,okS q m l j)->Bw w wz->P (.returned (.bool rp)) wz):=Lh (λwz h1 h2 h3 h4 h5 a=>by
  have hr:fQ q ⟨m,l.map bn.p⟩=rp:=by
   have ha:=Ph.2 (by rw[hN]at h5;exact h5)
   rw[fQ,h1,ha,<-Y7,bfr (show -1<=m/\m<=1099511627776 by omega),bfr (show(df.mk m (l.map bn.p)).panes.length<=256 by simp only[bfz];omega)]
   rfl
  rw[hP,hr];exact⟨rfl,a⟩)
 have aa:Hid (q.rightB=false->fQ q ⟨m,l.map bn.p⟩=false):=Lh (λh=>by rw[fQ,h];rfl)
 have ab:Hid (m < -1∨1099511627776<m->fQ q ⟨m,l.map bn.p⟩=false):=Lh (λh=>by rw[fQ,bfq (show ¬(-1<=m/\m<=1099511627776) by omega),Bool.false_and,Bool.and_false])
 have ae:Hid (256<n->fQ q ⟨m,l.map bn.p⟩=false):=Lh (λh=>by
  rw[fQ,bfq (show ¬(df.mk m (l.map bn.p)).panes.length<=256 by simp only[bfz];omega),Bool.false_and,Bool.and_false,Bool.and_false])
 have af:Hid (∀(j:Nat) (x:bn),l[j]? =some x->(jC q x.p=false∨openB q x.p m=false)->fQ q ⟨m,l.map bn.p⟩=false):=Lh (λj x I h=>by
  have ha:(l.map bn.p).all (λp=>jC q p && openB q p m)=false:=by
   rw[Bool.eq_false_iff];intro h';have:=Ph.1 h' j (List.getElem?_eq_some_iff.1 I).1 x I;rcases h with h | h <;> simp[h]at this
  rw[fQ,ha,Bool.false_and,Bool.and_false,Bool.and_false,Bool.and_false])
 obtain⟨r,c⟩:=Nm ((w.alloc (.cells q.cells 23)).alloc (.cells #[.int .i64 m,pv] 72));obtain⟨qb,S⟩:=Nm (w.heap.size);obtain⟨sb,k⟩:=Nm (w.heap.size+1);have H1:Hid (dB r qb q/\bZ r sb m pv/\Bw w r):=by rw[c,S,k];exact Lh (KU w q m pv)
 have s:=Lh H1.out.2.2;have HA:Hid (dS r sa l):=Lh (al.below s.out);have AB:Hid (∀x∈l,di r x):=Lh (λx I=>(hG x I).below s.out);have HF:=Lh hF;have aw:n<=1000000:=by have:=hF.2;omega
 have HN:Hid (n=l.length):=Lh hN;obtain⟨rq,ac⟩:=Nm (q.rightB);have oJ:Hid (∀b,Bw r b->Calls prog 91 #[.agg q.cells] b (Below0 b (.bool rq))):=by rw[ac];exact Lh (λb _=>kS b q)
 have aJ:Hid (∀b,Bw r b->Calls prog 133 #[.agg q.cells,.slice sa n sc] b (Below0 b (.bool rp))):=by
  rw[Y7,hN];exact Lh (λb h=>JM b q sa sc l (HA.out.below h) (λx I=>(HF.out.1 x I).1) HF.out.2)
 have am:Hid (rq=true->∀b x,x∈l->Bw r b->Calls prog 131 #[.agg q.cells,.agg x.cells] b (Below0 b (.bool (jC q x.p)))):=by
  rw[ac];exact Lh (λh b x I a=>MO b q x ((AB.out x I).below a) (HF.out.1 x I).1 (HF.out.1 x I).2 h)
 have an:Hid (∀b x,x∈l->Calls prog 132 #[.agg q.cells,.agg x.cells,.int .i64 m] b (Below0 b (.bool (openB q x.p m)))):=Lh (λb x I=>QP b q x m (HF.out.1 x I).1);rw[<-ac]at XY aa;clear hA hG hF hN ac Y7 hP ak al;subst au;rw[<-HN.out]at c H1 ⊢;obtain⟨Q,hQ⟩:=Nm q;rw[<-hQ]at am an Yk aa ab ae af XY;obtain⟨z,size,o,D,agg,kq⟩:=q;have ao:Hid (Q.cells=#[.int .i64 z,.int .i64 size,.int .i64 o,.int .i64 D,.int .i64 agg,.int .i64 kq]):=by rw[hQ];exact Lh rfl
 clear hQ;have U:(w.alloc (.cells #[.int .i64 z,.int .i64 size,.int .i64 o,.int .i64 D,.int .i64 agg,.int .i64 kq] 23)).heap.size=w.heap.size+1:=bg w _;unfold bu.cells at c oJ aJ ⊢;have HQ:Hid (∀b,Bw r b->D6 b qb z size o D agg kq):=Lh (λb h=>(H1.out.1.below h).d6);have HS:Hid (∀b,Bw r b->D2 b sb m (.slice sa n sc)):=Lh (λb h=>(H1.out.2.1.below h).d2);simp only at c oJ aJ;clear H1;obtain⟨J,K,d2,d3,d4,L⟩:=HQ.out r Br;obtain⟨E,u⟩:=HS.out r Br
 cases rq with
 | false=>
  go_enter func88,ntmps88;go_upto_region 1 with fail;rw[<-c,<-k,<-S];clear c k S U;go_wp2_with fail;refine(oJ.out r Br).mono ?_;rintro e w2 ⟨rfl,a⟩;have d:=Lh a;clear a J K d2 d3 d4 L E u;obtain⟨E,u⟩:=HS.out w2 d.out;dsimp only;go_wp2_with fail;exact Yk.out _ (aa.out (by simp)) (Tb s.out d.out)
 | true=>
 by_cases F:m < -1
 ·have HM:=Lh F;have Ib:decide (m < -1)=true:=bfr F;clear F;go_enter func88,ntmps88;go_upto_region 1 with fail;rw[<-c,<-k,<-S];clear c k S U;go_wp2_with fail;refine(oJ.out r Br).mono ?_;rintro e w2 ⟨rfl,a⟩;have d:=Lh a;clear a J K d2 d3 d4 L E u;obtain⟨E,u⟩:=HS.out w2 d.out;dsimp only;go_wp2_with fail;exact Yk.out _ (ab.out (.inl HM.out)) (Tb s.out d.out)
 have Ib:decide (m < -1)=false:=bfq F;by_cases M:1099511627776<m
 ·have HM:=Lh M;have Ic:decide (1099511627776<m)=true:=bfr M;clear F M;go_enter func88,ntmps88;go_upto_region 1 with fail;rw[<-c,<-k,<-S];clear c k S U;go_wp2_with fail;refine(oJ.out r Br).mono ?_;rintro e w2 ⟨rfl,a⟩;have d:=Lh a;clear a J K d2 d3 d4 L E u;obtain⟨E,u⟩:=HS.out w2 d.out;dsimp only;go_wp2_with fail;exact Yk.out _ (ab.out (.inr HM.out)) (Tb s.out d.out)
 have Ic:decide (1099511627776<m)=false:=bfq M;by_cases iO:256<n
 ·have HM:=Lh iO;have Ie:decide ((256:Int)<(n:Int))=true:=bfr (by omega)
  clear F M iO;go_enter func88,ntmps88;go_upto_region 1 with fail;rw[<-c,<-k,<-S];clear c k S U;go_wp2_with fail;refine(oJ.out r Br).mono ?_;rintro e w2 ⟨rfl,a⟩;have d:=Lh a;clear a J K d2 d3 d4 L E u;obtain⟨E,u⟩:=HS.out w2 d.out;dsimp only;go_wp2_with fail;exact Yk.out _ (ae.out HM.out) (Tb s.out d.out)
 have Ie:decide ((256:Int)<(n:Int))=false:=bfq (by omega)
 have HM:=Lh (bfy F (bfy M iO));clear F M iO aa ab ae;go_enter func88,ntmps88;go_upto_region 1 with fail;rw[<-c,<-k,<-S];clear c k S U;go_wp2_with fail;refine(oJ.out r Br).mono ?_;rintro e w2 ⟨rfl,a⟩;have d:=Lh a;clear a J K d2 d3 d4 L E u;obtain⟨E,u⟩:=HS.out w2 d.out;dsimp only;go_wp2_with fail;clear E u Ib Ic Ie;go_loopw[29] (Xz r Q m l) (λv _=>n-(intOf v).toNat)
 case atStart=>exact⟨0,bgi _,rfl,λj h=>absurd h (Nat.not_lt_zero _),d.out⟩
 case round=>
  obtain⟨i,hi,rfl,ap,a⟩:=hrel;rw[<-HN.out]at hi;have HO:=Lh (bfy ap a);clear ap a;by_cases ad:i<n
  ·have ax:(0:Int)<=(i:Int)/\(i:Int)<(n:Int):=by omega
   obtain⟨x,pa,oa,I,av,c0,c1,c2,c3,c4,c5,c6,c7⟩:=(HA.out.below HO.out.2).get (t:=i) (by rw[<-HN.out];exact ad)
   subst av;have HX:=Lh I;have HI:=Lh (bfy ad hi);clear I hi ad;obtain⟨⟨⟨Y,Z,xh⟩,⟨xn,xa,xt,xu,xv⟩,xr⟩,X6,xz,X9,Yb⟩:=x;simp only at c0 c1 c2 c3 c4 c5 c6 c7;go_upto_region 5 with fail;refine bg4 ?_
   iterate 9 go_step
   refine bg6 rfl _ _ _ rfl wr.heap.size (bn.mk ⟨⟨Y,Z,xh⟩,⟨xn,xa,xt,xu,xv⟩,xr⟩ X6 xz X9 Yb).cells rfl rfl 131 dh.cells (bg5 wr _) fK rfl (fV _) ?_;obtain⟨wx,ag⟩:=Nm ((wr.alloc (Obj.cells #[.string ⟨#[]⟩,.int .i64 0,.int .i64 0,.int .i64 0,.int .i64 0,.slice none 0 0,.complex .f64 0 0,.int .i64 0] 131)).setRow wr.heap.size (bn.mk ⟨⟨Y,Z,xh⟩,⟨xn,xa,xt,xu,xv⟩,xr⟩ X6 xz X9 Yb).cells);obtain⟨xb,ah⟩:=Nm (wr.heap.size);have O:Hid (dw wx xb (bn.mk ⟨⟨Y,Z,xh⟩,⟨xn,xa,xt,xu,xv⟩,xr⟩ X6 xz X9 Yb)/\Bw r wx):=by
    obtain⟨k1,k2⟩:=jk wr (bn.mk ⟨⟨Y,Z,xh⟩,⟨xn,xa,xt,xu,xv⟩,xr⟩ X6 xz X9 Yb);rw[ag,ah];exact Lh ⟨k1,HO.out.2.trans (k2.mono HO.out.2.size)⟩
   rw[<-ag,<-ah];clear ag ah c0 c1 c2 c3 c4 c5 c6 c7;obtain⟨X,hX⟩:=Nm (bn.mk ⟨⟨Y,Z,xh⟩,⟨xn,xa,xt,xu,xv⟩,xr⟩ X6 xz X9 Yb);obtain⟨ra,ai⟩:=Nm (jC Q X.p);obtain⟨rb,aj⟩:=Nm (openB Q X.p m);have Et:Hid (∀b,Bw r b->Calls prog 131 #[.agg #[.int .i64 z,.int .i64 size,.int .i64 o,.int .i64 D,.int .i64 agg,.int .i64 kq],.agg (bn.mk ⟨⟨Y,Z,xh⟩,⟨xn,xa,xt,xu,xv⟩,xr⟩ X6 xz X9 Yb).cells] b (Below0 b (.bool ra))):=Lh (λb h=>by
    have:=am.out (by simp) b (bn.mk ⟨⟨Y,Z,xh⟩,⟨xn,xa,xt,xu,xv⟩,xr⟩ X6 xz X9 Yb) (bf3 HX.out) h
    rw[ai,hX,<-ao.out];exact this)
   have IG:Hid (∀b,Calls prog 132 #[.agg #[.int .i64 z,.int .i64 size,.int .i64 o,.int .i64 D,.int .i64 agg,.int .i64 kq],.agg (bn.mk ⟨⟨Y,Z,xh⟩,⟨xn,xa,xt,xu,xv⟩,xr⟩ X6 xz X9 Yb).cells,.int .i64 m] b (Below0 b (.bool rb))):=Lh (λb=>by
    have:=an.out b (bn.mk ⟨⟨Y,Z,xh⟩,⟨xn,xa,xt,xu,xv⟩,xr⟩ X6 xz X9 Yb) (bf3 HX.out);rw[aj,hX,<-ao.out];exact this)
   have Yp:Hid (l[i]? =some X):=by rw[hX];exact Lh HX.out
   have YO:=Lh ai;have YX:=Lh aj;clear ai aj hX HX;unfold bn.cells at Et IG;simp only at Et IG;obtain⟨J,K,d2,d3,d4,L⟩:=HQ.out wx O.out.2;obtain⟨f0,f1,f2,f3,f4,f5,f6,f7⟩:=O.out.1.d8
   cases ra with
   | false=>
    go_wp2_with fail;refine(Et.out wx O.out.2).mono ?_;rintro e R ⟨rfl,a⟩;have N:=Lh (O.out.2.trans (a.mono O.out.2.size));clear a J K d2 d3 d4 L f0 f1 f2 f3 f4 f5 f6 f7;dsimp only;go_wp2_with fail;exact Yk.out _ (af.out i X Yp.out (.inl YO.out.symm)) (Tb s.out N.out)
   | true=>
   cases rb with
   | false=>
    go_wp2_with fail;refine(Et.out wx O.out.2).mono ?_;rintro e R ⟨rfl,a⟩;have N:Hid (dw R xb (bn.mk ⟨⟨Y,Z,xh⟩,⟨xn,xa,xt,xu,xv⟩,xr⟩ X6 xz X9 Yb)/\Bw r R):=Lh ⟨O.out.1.below a,O.out.2.trans (a.mono O.out.2.size)⟩;clear a J K d2 d3 d4 L f0 f1 f2 f3 f4 f5 f6 f7;obtain⟨J,K,d2,d3,d4,L⟩:=HQ.out R N.out.2;obtain⟨f0,f1,f2,f3,f4,f5,f6,f7⟩:=N.out.1.d8;obtain⟨E,u⟩:=HS.out R N.out.2;dsimp only;go_wp2_with fail;refine(IG.out R).mono ?_;rintro e w4 ⟨rfl,a⟩;have OZ:=Lh (N.out.2.trans (a.mono N.out.2.size));clear a J K d2 d3 d4 L f0 f1 f2 f3 f4 f5 f6 f7 E u;dsimp only;go_wp2_with fail;exact Yk.out _ (af.out i X Yp.out (.inr YX.out.symm)) (Tb s.out OZ.out)
   | true=>
    go_wp2_with fail;refine(Et.out wx O.out.2).mono ?_;rintro e R ⟨rfl,a⟩;have N:Hid (dw R xb (bn.mk ⟨⟨Y,Z,xh⟩,⟨xn,xa,xt,xu,xv⟩,xr⟩ X6 xz X9 Yb)/\Bw r R):=Lh ⟨O.out.1.below a,O.out.2.trans (a.mono O.out.2.size)⟩;clear a J K d2 d3 d4 L f0 f1 f2 f3 f4 f5 f6 f7;obtain⟨J,K,d2,d3,d4,L⟩:=HQ.out R N.out.2;obtain⟨f0,f1,f2,f3,f4,f5,f6,f7⟩:=N.out.1.d8;obtain⟨E,u⟩:=HS.out R N.out.2;dsimp only;go_wp2_with fail;refine(IG.out R).mono ?_;rintro e w4 ⟨rfl,a⟩;have OZ:=Lh (N.out.2.trans (a.mono N.out.2.size));clear a J K d2 d3 d4 L f0 f1 f2 f3 f4 f5 f6 f7 E u;dsimp only;go_wp2_with fail;refine⟨⟨i+1,by rw[<-HN.out];exact HI.out.1,rfl,λj hj y hy=>?_,OZ.out⟩,by rw[dO,dO];have:=HI.out.1;omega⟩
    rcases bg1 j i with ar | ar
    ·exact HO.out.1 j ar y hy
    obtain rfl:j=i:=by omega
    have u:=hy.symm.trans Yp.out;cases u
    exact⟨YO.out.symm,YX.out.symm⟩
  obtain rfl:i=n:=by omega
  clear ad;obtain⟨J,K,d2,d3,d4,L⟩:=HQ.out wr HO.out.2;obtain⟨E,u⟩:=HS.out wr HO.out.2;go_wp2_with fail;refine(aJ.out wr HO.out.2).mono ?_;rintro e R ⟨rfl,a⟩;have N:=Lh (HO.out.2.trans (a.mono HO.out.2.size));clear a J K d2 d3 d4 L E u;dsimp only;go_wp2_with fail;exact XY.out _ (by simp) HM.out.1 HM.out.2.1 HM.out.2.2 HO.out.1 (Tb s.out N.out)
theorem wU(y:bn)(l:List bn):bT (y::l)=y.cells.toList++bT l:=rfl
theorem ve:∀(l:List bn) (i:Nat) (x:bn) (a:Value) (b:a.oneCell'=true),l[i]? =some x->(bT l).set (i*8+5) a=bT (l.set i ⟨x.p,a,x.z,b,x.hz⟩)
 | [],_,_,_,_,h=>by simp at h
 | y::l,0,x,a,b,h=>by
  simp only[bgp,bf5]at h;subst h;rfl
 | y::l,i+1,x,a,b,h=>by
  have c:=ve l i x a b (by simpa using h)
  have d:y.cells.toList.length=8:=rfl;rw[wU,bfu,wU,List.set_append_right _ _ (by omega),d,show(i+1)*8+5-8=i*8+5 by omega,c]
theorem dm.Xq {w:World} {a g c n:Nat} {l:List bn}(h:dm w a (.slice (some ⟨g,0,none⟩) n c) l)(e:n=l.length) {i:Nat} {x:bn}(j:l[i]? =some x)(b:Value)(d:b.oneCell'=true):
  dm (w.setCell ⟨g,i*8+5,none⟩ b) a (.slice (some ⟨g,0,none⟩) n c) (l.set i ⟨x.p,b,x.z,d,x.hz⟩):=by
 subst e;unfold dm;rw[List.length_set,<-ve l i x b d j];exact(World.ownsRow.stored h _ _).1
theorem dm.cell {w:World} {a g c n:Nat} {l:List bn}(h:dm w a (.slice (some ⟨g,0,none⟩) n c) l)(e:n=l.length) {i:Nat} {x:bn}(b:l[i]? =some x) {j:Nat} {u:Value}(d:x.cells[j]? =some u):w.cell? ⟨g,i*8+j,none⟩=some u:=by
 subst e;unfold dm at h;have m:i<l.length:=(List.getElem?_eq_some_iff.1 b).1;have k:j<8:=sQ d;rw[World.ownsRow.cellAt h _ (by omega)]
 exact ni l i x j u b d
theorem dm.shape {w:World} {a:Nat} {v:Value} {l:List bn}(h:dm w a v l):(v=bM/\l=[])∨∃g c,v=.slice (some ⟨g,0,none⟩) l.length c/\l.length<=c:=by
 rcases h.2 with⟨b,j⟩ | ⟨g,d,k,b,_,_,e,_⟩
 ·exact .inl ⟨b,bg3 j⟩
 exact .inr ⟨g,d,b,e⟩
def Off(v:Value)(sb rb:Nat)(tv:Value)(l:List Int):Prop:=∀a n c,tv=.slice (some a) n c->l≠[]->v.ownBlock≠some a.block/\a.block≠sb/\a.block≠rb
def KF(w:World)(sb rb:Nat)(m:Int)(v:Value)(L:List bn)(wr:World):Prop:=bZ wr sb m v/\bZ wr rb 0 bM/\dm wr (rb+1) v L/\Bw w wr/\∀x∈L,di wr x/\Off v sb rb x.tv x.p.a.top
theorem KF.below {w:World} {b c:Nat} {m:Int} {v:Value} {L:List bn} {wr d:World}(h:KF w b c m v L wr)(a:Bw wr d):KF w b c m v L d:=
 ⟨h.1.below a,h.2.1.below a,h.2.2.1.far a,h.2.2.2.1.trans (a.mono h.2.2.2.1.size),λx e=>⟨(h.2.2.2.2 x e).1.below a,(h.2.2.2.2 x e).2⟩⟩
theorem TZ {L:List bn} {i:Nat} {x y:bn}(h:L[i]? =some x)(e:y.p=x.p):(L.set i y).map bn.p=L.map bn.p:=by
 apply List.ext_getElem?;intro j;rw[bgf,bgf,List.getElem?_set];by_cases a:i=j
 ·subst a;have b:=(List.getElem?_eq_some_iff.1 h).1;rw[if_pos rfl,if_pos b,h];simp[e]
 rw[if_neg a]
def WW(w:World)(sb rb:Nat)(m:Int)(v:Value)(ps:List bY)(i:Value)(wr:World):Prop:=∃k:Nat,k<=ps.length/\i=.int .i64 (k:Int)/\∃L,L.map bn.p=ps/\KF w sb rb m v L wr
def zO(w:World)(s:df)(e:Ending)(w':World):Prop:=∃v,e=.returned v/\gG w' v s/\Bw w w'
def Xw(w:World)(sb rb g:Nat)(m:Int)(n c i:Nat)(L:List bn)(x:bn):Nat->World->Prop
 | 0,w'=>KF w sb rb m (.slice (some ⟨g,0,none⟩) n c) L w'
 | 1,w'=>KF w sb rb m (.slice (some ⟨g,0,none⟩) n c) L w'
 | 2,w'=>KF w sb rb m (.slice (some ⟨g,0,none⟩) n c) L w'
 | _+3,w'=>∃tv ht,KF w sb rb m (.slice (some ⟨g,0,none⟩) n c) (L.set i ⟨x.p,tv,x.z,ht,x.hz⟩) w'
theorem WA(w:World)(m:Int)(a:Value):
  bZ ((w.alloc (.cells #[.int .i64 m,a] 72)).alloc (.cells #[.int .i64 0,bM] 72)) w.heap.size m a/\bZ ((w.alloc (.cells #[.int .i64 m,a] 72)).alloc (.cells #[.int .i64 0,bM] 72)) (w.heap.size+1) 0 bM/\
   Bw w ((w.alloc (.cells #[.int .i64 m,a] 72)).alloc (.cells #[.int .i64 0,bM] 72))/\((w.alloc (.cells #[.int .i64 m,a] 72)).alloc (.cells #[.int .i64 0,bM] 72)).heap.size=w.heap.size+2:=by
 have d:=(Below.refl _ w).alloc (bfx _) (.cells #[.int .i64 m,a] 72);have b:=(Below.refl _ (w.alloc (.cells #[.int .i64 m,a] 72))).alloc (bfx _) (.cells #[.int .i64 0,bM] 72);have c:(w.alloc (.cells #[.int .i64 m,a] 72)).heap.size=w.heap.size+1:=bg w _;refine⟨bZ.below (bg5 w _) b,?_,Tb d b,by rw[bg,c]⟩
 rw[<-c];exact bg5 _ _
theorem JI(w:World)(m:Int)(pv:Value)(l:List bn)(hA:cZ w pv l)(N:∀x∈l,di w x)(hF:tY l):
  Calls prog 89 #[.agg #[.int .i64 m,pv]] w (zO w ⟨m,l.map bn.p⟩):=by
 have mixed:prog.follows .mixedOrders=true:=by kernel_rfl
 obtain⟨P,hP⟩:=Nm (zO w ⟨m,l.map bn.p⟩);rw[<-hP];obtain⟨ps,O⟩:=Nm (l.map bn.p);obtain⟨n,hN⟩:=Nm (ps.length);have aA:n<=1000000:=by rw[hN,O,bfz];exact hF.2
 have HP:Hid (∀wz v L,cZ wz v L->(∀x∈L,di wz x)->L.map bn.p=ps->Bw w wz->P (.returned (.agg #[.int .i64 m,v])) wz):=by
  rw[hP,<-O];exact Lh (λwz v L h1 h2 h3 hB=>⟨_,rfl,⟨v,L,rfl,h1,h2,h3.symm⟩,hB⟩)
 obtain⟨w1,ac⟩:=Nm ((w.alloc (.cells #[.int .i64 m,pv] 72)).alloc (.cells #[.int .i64 0,.slice none 0 0] 72));obtain⟨r,ae⟩:=Nm (w.heap.size);obtain⟨q,af⟩:=Nm (w.heap.size+1);have H1:Hid (bZ w1 r m pv/\bZ w1 q 0 bM/\Bw w w1/\w1.heap.size=q+1):=by rw[ac,ae,af];exact Lh (WA w m pv)
 have HL:Hid (∀x∈l,di w1 x/\∀a n c,x.tv=.slice (some a) n c->x.p.a.top≠[]->a.block<w.heap.size):=Lh (λx D=>by
  have h:=N x D;refine⟨h.below H1.out.2.2.1,λa n c e s=>?_⟩;obtain⟨a',c',e',_,h'⟩:=h.1;rcases h' with⟨_,h'⟩ | ⟨b,o,ha,_,h'⟩
  ·exact absurd h' s
  rw[e']at e;cases e
  cases ha
  cases ht:x.p.a.top with
  | nil=>exact absurd ht s
  | cons y t=>exact block_lt_of_cell (h' 0 y (by rw[ht];rfl)))
 have ZC:Hid (Calls prog 134 #[pv] w1 (λe d=>∃v',e=.returned v'/\dm d w1.heap.size v' l/\Bw w1 d)):=Lh (yU w1 pv l (hA.below H1.out.2.2.1) hF.2);have HT:Hid (∀x:bn,x.p∈ps->x.p.a.top.length<=1000000):=Lh (λx D=>by
  rw[O]at D;obtain⟨y,hy,e⟩:=List.mem_map.1 D;rw[<-e];exact(hF.1 y hy).2)
 have HN:Hid (n=ps.length/\l.map bn.p=ps/\l.length=n):=Lh ⟨hN,O.symm,by rw[hN,O,bfz]⟩
 have Z:Hid (w.heap.size<=r/\r<q/\q+1=w1.heap.size):=Lh ⟨by omega,by omega,H1.out.2.2.2.symm⟩
 clear hN O N hF hP;obtain⟨sa,sn,sc,ar⟩:∃a n c,pv=.slice a n c:=by
  obtain⟨a,c,h,_⟩:=hA;exact⟨_,_,_,h⟩
 clear hA;subst ar;obtain⟨e0,e1⟩:=H1.out.1.d2;have au:(w.alloc (.cells #[.int .i64 m,.slice sa sn sc] 72)).heap.size=w.heap.size+1:=bg w _;go_enter func89,ntmps89;go_upto_region 1 with fail;rw[<-ac,<-af,<-ae];clear ac af ae au;refine bg4 ?_
 iterate 6 go_step
 refine wpList_plain rfl λK hK=>?_;go_step;refine ZC.out.mono ?_;rintro e w2 ⟨v2,rfl,hO,hB⟩;refine hK _ _ ?_;clear hK;have H2:Hid (bZ w2 r m (.slice sa sn sc)/\bZ w2 q 0 bM/\dm w2 (q+1) v2 l/\Bw w w2/\∀x∈l,di w2 x/\Off v2 r q x.tv x.p.a.top):=by
  obtain⟨j1,j2,Q,R⟩:=H1.out;rw[<-R];refine Lh ⟨j1.below hB,j2.below hB,hO,Tb Q hB,λx D=>⟨(HL.out x D).1.below hB,λa n c e s=>?_⟩⟩;have h1:=(HL.out x D).2 a n c e s;have hb:=Z.out;refine⟨λhe=>?_,by omega,by omega⟩
  have h2:=(hO.lt he).1;omega
 have ag:=hO.shape;rw[HN.out.2.2]at ag;clear hO hB H1 ZC HL e0 e1;have ak:v2.oneCell'=true/\v2.cells=#[v2]:=by
  rcases ag with⟨rfl,_⟩ | ⟨g,c,rfl,_⟩ <;> exact⟨rfl,rfl⟩
 obtain⟨e0,e1⟩:=H2.out.1.d2
 iterate 3 go_step
 refine wpList_store1 rfl _ (.tmp 7) (.tmp 6) rfl ⟨r,1,none⟩ v2 (.slice sa sn sc) rfl rfl ak.2 ak.1 sizeOf70 e1 (bZ.fro H2.out.1 1) ?_;obtain⟨w3,ab⟩:=Nm (w2.setCell ⟨r,1,none⟩ v2);have H3:Hid (KF w r q m v2 l w3):=by
  have I:w2.grownBy w3 (some r):=by rw[ab];exact grown_setCell _ _ _ _
  obtain⟨j1,j2,Q,R,J⟩:=H2.out;have hb:=Z.out;refine Lh ⟨by rw[ab];exact j1.set1 v2,j2.grown I (by simp;omega),Q.kept I (.inr (λe=>by have:=Q.lt e;omega)),R.trans (bQ I hb.1 R.size),λx D=>⟨⟨(J x D).1.1.grown I (λa n' c e s=>?_),(J x D).1.2⟩,(J x D).2⟩⟩
  exact((J x D).2 a n' c e s).2.1
 rw[<-ab];clear ab e0 e1 H2;rcases ag with⟨rfl,hl⟩ | ⟨g,c,rfl,hc⟩
 ·have h0:n=0:=by rw[<-HN.out.2.2,hl];rfl
  subst h0;obtain⟨e0,e1⟩:=H3.out.1.d2;unfold bM at e1;go_wp2_with fail;go_loopg [11] 0 (λ_ s11 wr=>s11=.int .i64 0/\wr=w3)
  case atStart=>exact⟨rfl,rfl⟩
  case round=>
   obtain⟨rfl,hw⟩:=hrel;subst hw;go_upto_region 7 with fail;refine bg4 ?_
   iterate 3 go_step
   refine bg6 rfl _ _ _ rfl q #[.int .i64 m,(.slice none 0 0)] rfl rfl 72 #[.int .i64 0,bM] H3.out.2.1 bP rfl (dF (by rfl)) ?_
   obtain⟨w9,F⟩:=Nm (wr.setRow q #[.int .i64 m,(.slice none 0 0)]);have H9:Hid (bZ w9 q m (.slice none 0 0)/\P (.returned (.agg #[.int .i64 m,(.slice none 0 0)])) w9):=by
    have I:wr.grownBy w9 (some q):=by rw[F];exact bD _ _ _
    obtain⟨j1,j2,Q,R,J⟩:=H3.out;have hb:=Z.out;have hO:=Q.kept I (.inr (λe=>by have:=Q.lt e;omega))
    refine Lh ⟨by rw[F];exact j2.reset m (.slice none 0 0),HP.out w9 (.slice none 0 0) l hO.ins (λx D=>⟨(J x D).1.1.grown I (λa n' c e s=>?_),(J x D).1.2⟩) HN.out.2.1 (R.trans (bQ I (by omega) R.size))⟩
    exact((J x D).2 a n' c e s).2.2
   rw[<-F];clear F;go_wp2_with fail;exact bodyPost_ret (v:=.agg #[.int .i64 m,(.slice none 0 0)]) (results_cell_row (p:=2) (ty:=72) rfl _ _ q 72 #[.int .i64 m,(.slice none 0 0)] (0,0) _ rfl H9.out.1 underlying72 rfl bP) rfl H9.out.2
 obtain⟨e0,e1⟩:=H3.out.1.d2;have aB:=Lh HN.out.2.2;go_wp2_with fail;clear hc e0 e1;go_loopw[11] (WW w r q m (.slice (some ⟨g,0,none⟩) n c) ps) (λv _=>n-(intOf v).toNat)
 case atStart=>exact⟨0,bgi _,rfl,l,HN.out.2.1,H3.out⟩
 case round=>
  obtain⟨i,hi,rfl,L,Ui,hI⟩:=hrel;rw[<-HN.out.1]at hi;have HO:=Lh hI;have al:L.length=n:=by rw[HN.out.1,<-Ui,bfz]
  have S:Hid (L.length=n/\L.map bn.p=ps):=Lh ⟨al,Ui⟩;clear hI;by_cases ah:i<n
  ·have ai:(0:Int)<=(i:Int)/\(i:Int)<(n:Int):=by omega
   obtain⟨x,D⟩:∃x,L[i]? =some x:=⟨_,bfs (by omega)⟩
   have HX:Hid (L[i]? =some x/\i<n/\x∈L):=Lh ⟨D,ah,bf3 D⟩;obtain⟨tv,YC⟩:=Nm (x.tv);have av:Hid (∀d,KF w r q m (.slice (some ⟨g,0,none⟩) n c) L d->Calls prog 42 #[tv] d (λe am=>∃v',e=.returned v'/\bC am v' x.p.a.top/\Bw d am/\∀a n c,v'=.slice (some a) n c->d.heap.size<=a.block)):=by
    rw[YC];exact Lh (λd h=>vT d x.tv x.p.a.top (h.2.2.2.2 x HX.out.2.2).1.1 (HT.out x (by rw[<-S.out.2];exact List.mem_map.2 ⟨x,HX.out.2.2,rfl⟩)))
   have U7:Hid (∀d,KF w r q m (.slice (some ⟨g,0,none⟩) n c) L d->d.cell? ⟨g,i*8+5,none⟩=some tv):=by
    rw[YC];exact Lh (λd h=>h.2.2.1.cell S.out.1.symm HX.out.1 (j:=5) rfl)
   have an:=Lh ai;clear D YC hi ah al Ui;go_wp2_with fail;go_upto_region 5 with fail;have aw:Hid (Xw w r q g m n c i L x 0 wr.drew):=Lh (HO.out.below (Below.refl wr.heap.size wr).drew)
   have ao:Hid (∀k d,Xw w r q g m n c i L x k d->bZ d r m (.slice (some ⟨g,0,none⟩) n c)):=Lh (λk d h=>match k,h with
    | 0,h=>h.1
    | 1,h=>h.1
    | 2,h=>h.1
    | _+3,⟨_,_,h⟩=>h.1)
   refine wp_region_skip_frame (λi=>([]:List Nat).contains i) (by kernel_rfl) (NoF [none,none,none,none,some 0,some 1,none,none,none,some 2]) [9,10,14] (V4 ((Value.pointer (some ⟨r,1,none⟩))::(Value.slice (some ⟨g,0,none⟩) n c)::(Value.int .i64 (i:Int))::(Value.pointer (some ⟨r,1,none⟩))::(Value.slice (some ⟨g,0,none⟩) n c)::(Value.int .i64 (i:Int))::(Value.pointer (some ⟨g,i*8,none⟩))::(Value.pointer (some ⟨g,i*8+3,none⟩))::(Value.pointer (some ⟨g,i*8+3+2,none⟩))::tv::([undef,.pointer (some ⟨g,i*8,none⟩),.pointer (some ⟨g,i*8+3,none⟩),.pointer (some ⟨g,i*8+3+2,none⟩),undef]:List Value)) 10 (λk d v=>k=2->∃a_ n_ c_,v=.slice a_ n_ c_/\bC d (.slice a_ n_ c_) x.p.a.top/\∀ad,a_=some ad->ad.block≠g/\ad.block≠r/\ad.block≠q) 99 (λ_ _ _=>True) 99 (λ_ _ _=>True) 99 (λ_ _ _=>True)) (Xw w r q g m n c i L x) (λw d=>Bw w d) (wP _ (λk w_ d v h ha hk=>by obtain⟨a,n,c,h1,h2,h3⟩:=ha hk;exact⟨a,n,c,h1,h2.below h,h3⟩) (λ_ _ _ _ _ h=>h) (λ_ _ _ _ _ h=>h) (λ_ _ _ _ _ h=>h)) (by kernel_rfl) (by kernel_rfl) (by kernel_rfl) aw.out (λ_=>⟨rfl,rfl,rfl,rfl,rfl,rfl,rfl,rfl,rfl,rfl,rfl,rfl,rfl,rfl,rfl,trivial⟩) (λ_ h=>by simp at h) ?_ ?_
   ·refine ⟨?_,?_,?_,?_,?_,?_,?_,?_,?_,?_,?_,?_,?_,?_,?_,trivial⟩<;>(first|(intro _ _ a d N XR M K hK;guard_hyp d:World)|intro _ a d N XR M K hK)<;>replace XR:=Lh XR<;>replace M:=Lh M
    have q1:=FaA XR 1 r 0;rotate_left;have aC:=Pa a 14 r 1 M.out.1;obtain⟨e0,e1⟩:=(ao.out _ _ N).d2;rotate_left;have q3:=FiA XR 3 i;rotate_left;have q1:=FaA XR 1 r 0;rotate_left;have aD:=Pa a 17 r 1 M.out.1;obtain⟨e0,e1⟩:=(ao.out _ _ N).d2;rotate_left;have q3:=FiA XR 3 i;rotate_left;have aE:=Ep a 18 (.slice (some ⟨g,0,none⟩) n c) M.out.1;have aF:=Pi a 19 i M.out.2.1;have ai:=an.out;rotate_left;have aG:=Ep a 20 (.pointer (some ⟨g,i*8,none⟩)) M.out.1;rotate_left;have aH:=Ep a 21 (.pointer (some ⟨g,i*8+3,none⟩)) M.out.1;rotate_left
    ·have aI:=Ep a 22 (.pointer (some ⟨g,i*8+3+2,none⟩)) M.out.1;have E:KF w r q m (.slice (some ⟨g,0,none⟩) n c) L d:=N;have hc:=U7.out d E;go_step;exact hK _ _ rfl E (jE (.inr λu h e=>absurd e (by decide)) (.inr λ_ h=>h) (.inr λ_ h=>h) (.inr λ_ h=>h))
    ·have aJ:=Ep a 23 tv M.out.1;have E:KF w r q m (.slice (some ⟨g,0,none⟩) n c) L d:=N;have aa:=Lh E;clear N E;go_step;refine(av.out d aa.out).mono ?_;rintro e w3 ⟨v',rfl,hI,hB,hN⟩;obtain⟨U,Y,rfl,_⟩:=id hI;exact hK _ _ (λ_=>⟨U,_,Y,rfl,hI,λad h=>by have h1:=hN ad _ _ (by rw[h]);have h2:=aa.out.2.1.lt;have h3:=aa.out.1.lt;have h4:=(aa.out.2.2.1.lt (k:=g) rfl).2;omega⟩) (aa.out.below hB) (jE (.inl rfl) (.inr λ_ h=>h) (.inr λ_ h=>h) (.inr λ_ h=>h))
    have aK:=Ep a 15 (.slice (some ⟨g,0,none⟩) n c) M.out.1;have aL:=Pi a 16 i M.out.2.1;have ai:=an.out;rotate_left;have Zq:=Ep a 25 (.pointer (some ⟨g,i*8,none⟩)) M.out.1;rotate_left;have ZM:=Ep a 26 (.pointer (some ⟨g,i*8+3,none⟩)) M.out.1;rotate_left
    ·obtain ⟨p0,p1,_⟩:=M.out;have ax:=(show a.eval (.tmp 27)=.pointer (some ⟨g,i*8+3+2,none⟩)from p0);obtain hp:=(show 2=2->∃a_ n_ c_,a.eval (.tmp 24)=.slice a_ n_ c_/\bC d (.slice a_ n_ c_) x.p.a.top/\∀ad,a_=some ad->ad.block≠g/\ad.block≠r/\ad.block≠q from p1);obtain⟨U,aV,Y,hv,hI,hN⟩:=hp rfl;have E:KF w r q m (.slice (some ⟨g,0,none⟩) n c) L d:=N;refine RJ (.tmp 27) (.tmp 24) rfl ⟨g,i*8+3+2,none⟩ (.slice U aV Y) tv ax hv rfl rfl sizeOf35 (U7.out d E) (E.2.2.1.fro S.out.1.symm _) ?_;obtain⟨w4,aj⟩:=Nm (d.setCell ⟨g,i*8+3+2,none⟩ (.slice U aV Y));rw[<-aj];have I:d.grownBy w4 (some g):=by rw[aj];exact grown_setCell _ _ _ _
     obtain⟨j1,j2,Q,R,J⟩:=E;have aM:=Q.lt (k:=g) rfl;have hb:=Z.out;have aN:=j2.lt;have hO:dm w4 (q+1) (.slice (some ⟨g,0,none⟩) n c) (L.set i ⟨x.p,.slice U aV Y,x.z,rfl,x.hz⟩):=by rw[aj];exact Q.Xq S.out.1.symm HX.out.1 _ rfl
     have ay:=J x HX.out.2.2;exact hK _ _ rfl ⟨.slice U aV Y,rfl,j1.grown I (by simp;omega),j2.grown I (by simp;omega),hO,R.trans (bQ I (by omega) R.size),λy hy=>by
      rcases List.mem_or_eq_of_mem_set hy with hy | rfl
      ·exact⟨⟨(J y hy).1.1.grown I (λa n' c' e s he=>(((J y hy).2 a n' c' e s).1 (by simp[Value.ownBlock,he]))),(J y hy).1.2⟩,(J y hy).2⟩
      exact⟨⟨hI.grown I (λa n' c' e _=>by cases e;exact(hN _ rfl).1),ay.1.2⟩,λa n' c' e _=>by cases e;have:=hN _ rfl;exact⟨by simp[Value.ownBlock];omega,this.2⟩⟩⟩ (jE (.inr λu h e=>absurd e (by decide)) (.inr λ_ h=>h) (.inr λ_ h=>h) (.inr λ_ h=>h))
    all_goals(go_step;exact hK _ _ rfl N Br)
   intro vs az N ap hV
   match vs,ap,hV with
   | [v0,v1,v2,v3,v4,v5,v6,v7,v8,v9,v10,v11,v12,v13,v14],_,hV=>
    clear hV;have E:∃tv ht,KF w r q m (.slice (some ⟨g,0,none⟩) n c) (L.set i ⟨x.p,tv,x.z,ht,x.hz⟩) az:=N;obtain⟨aO,aP,hI⟩:=E;have HZ:=Lh hI;clear hI N;simp only[putsL,bf7,bf1];simp only[Act.put,bfw,bfu,bfv];go_wp2_with fail;refine⟨⟨i+1,by rw[<-HN.out.1];exact HX.out.2.1,rfl,_,?_,HZ.out⟩,by rw[dO,dO];have:=HX.out.2.1;omega⟩
    rw[<-S.out.2];exact TZ HX.out.1 rfl
  obtain rfl:i=n:=by omega
  clear ah;obtain⟨e0,e1⟩:=HO.out.1.d2;go_upto_region 7 with fail;refine bg4 ?_
  iterate 3 go_step
  refine bg6 rfl _ _ _ rfl q #[.int .i64 m,(.slice (some ⟨g,0,none⟩) i c)] rfl rfl 72 #[.int .i64 0,bM] HO.out.2.1 bP rfl (dF (by rfl)) ?_
  obtain⟨w9,F⟩:=Nm (wr.setRow q #[.int .i64 m,(.slice (some ⟨g,0,none⟩) i c)]);have H9:Hid (bZ w9 q m (.slice (some ⟨g,0,none⟩) i c)/\P (.returned (.agg #[.int .i64 m,(.slice (some ⟨g,0,none⟩) i c)])) w9):=by
   have I:wr.grownBy w9 (some q):=by rw[F];exact bD _ _ _
   obtain⟨j1,j2,Q,R,J⟩:=HO.out;have hb:=Z.out;have hO:=Q.kept I (.inr (λe=>by have:=Q.lt e;omega))
   refine Lh ⟨by rw[F];exact j2.reset m (.slice (some ⟨g,0,none⟩) i c),HP.out w9 (.slice (some ⟨g,0,none⟩) i c) L hO.ins (λx D=>⟨(J x D).1.1.grown I (λa n' c e s=>?_),(J x D).1.2⟩) S.out.2 (R.trans (bQ I (by omega) R.size))⟩
   exact((J x D).2 a n' c e s).2.2
  rw[<-F];clear F;go_wp2_with fail;exact bodyPost_ret (v:=.agg #[.int .i64 m,(.slice (some ⟨g,0,none⟩) i c)]) (results_cell_row (p:=2) (ty:=72) rfl _ _ q 72 #[.int .i64 m,(.slice (some ⟨g,0,none⟩) i c)] (0,0) _ rfl H9.out.1 underlying72 rfl bP) rfl H9.out.2
theorem JL(w:World):Calls prog 36 #[] w (λe w'=>e=.returned (.agg #[.int .i64 (-1),bM])/\Bw w w'):=by
 obtain⟨h,b⟩:=Nm (w.alloc (.cells #[.int .i64 0,.slice none 0 0] 72));obtain⟨c,d⟩:=Nm (w.heap.size);have j:Hid (bZ h c 0 bM/\Bw w h):=by
  rw[b,d];exact Lh ⟨bg5 w _,(Below.refl _ w).alloc (bfx _) _⟩
 have m:Hid (w.heap.size<=c):=Lh (by omega)
 go_enter func36,ntmps36;go_upto_region 1 with fail;rw[<-b,<-d];clear b d;refine bg4 ?_
 iterate 3 go_step
 refine bg6 rfl _ _ _ rfl c #[.int .i64 (-1),bM] rfl rfl 72 #[.int .i64 0,bM] j.out.1 bP rfl (dF rfl) ?_;obtain⟨k,a⟩:=Nm (h.setRow c #[.int .i64 (-1),bM]);have l:Hid (bZ k c (-1) bM/\Bw w k):=by
  have n:h.grownBy k (some c):=by rw[a];exact bD _ _ _
  exact Lh ⟨by rw[a];exact j.out.1.reset _ _,j.out.2.trans (bQ n m.out j.out.2.size)⟩
 rw[<-a];clear a;go_wp2_with fail;exact bodyPost_ret (v:=.agg #[.int .i64 (-1),bM]) (results_cell_row (p:=0) (ty:=72) rfl _ _ c 72 #[.int .i64 (-1),bM] (0,0) _ rfl l.out.1 underlying72 rfl bP) rfl ⟨rfl,l.out.2⟩
theorem Qa(k:List (BitVec 8))(a b r:Int)(s:Option Addr)(n c:Nat):prog.built 37 [(2,.agg #[Sv k,.int .i64 a,.int .i64 b]),(3,.int .i64 r),(4,.slice s n c)]=some #[.bool false,.int .i64 0,.string ⟨#[]⟩,.int .i64 0,.int .i64 0,Sv k,.int .i64 a,.int .i64 b,.int .i64 r,.slice s n c]:=by kernel_rfl
def xX(w:World)(o:dE)(e:Ending)(w':World):Prop:=∃tv ht,e=.returned (.agg (bH.mk o tv ht).cells)/\bC w' tv o.v/\Bw w w'/\∀a n c,tv=.slice (some a) n c->w.heap.size<=a.block
theorem dB.below' {w w':World} {b r:Nat} {q:bu}(h:dB w b q)(c:w.grownBy w' (some r))(a:b≠r):dB w' b q:=(c.block b h.lt (by simpa using a)).trans h
def Xu(w w1:World)(qb pb:Nat)(Q:bu)(X:bn)(w':World):Prop:=dB w' qb Q/\dw w' pb X/\Bw w w'/\w1.heap.size<=w'.heap.size
def Xv(ob:Nat)(xk:List (BitVec 8))(xl xh rd:Int)(lv:List Int):Nat->World->Prop
 | 0,w'=>fH w' ob dD
 | _+1,w'=>∃a n c,w'.heap[ob]? =some (.cells #[.bool false,.int .i64 0,.string ⟨#[]⟩,.int .i64 0,.int .i64 0,Sv xk,.int .i64 xl,.int .i64 xh,.int .i64 rd,.slice a n c] 37 (0,0))/\bC w' (.slice a n c) lv/\∀ad,a=some ad->ob<ad.block
def XJ(w w1:World)(qb pb ob:Nat)(Q:bu)(X:bn)(xk:List (BitVec 8))(xl xh rd:Int)(lv:List Int)(k:Nat)(w':World):Prop:=Xu w w1 qb pb Q X w'/\Xv ob xk xl xh rd lv k w'
theorem Xu.below {w c:World} {d e:Nat} {Q:bu} {X:bn} {w' a:World}(h:Xu w c d e Q X w')(b:Bw w' a):Xu w c d e Q X a:=⟨h.1.below b,h.2.1.below b,h.2.2.1.trans (b.mono h.2.2.1.size),bgn h.2.2.2 b.size⟩
theorem Xv.below {d:Nat} {j:List (BitVec 8)} {l m rd:Int} {o:List Int} {k:Nat} {w' b:World}(h:Xv d j l m rd o k w')(e:Bw w' b):Xv d j l m rd o k b:=match k,h with
 | 0,h=>fH.below h e
 | _+1,⟨a,n,c,h,hI,hN⟩=>⟨a,n,c,(e.block d (Array.getElem?_eq_some_iff.1 h).1).trans h,hI.below e,hN⟩
theorem DK(w:World)(q:bu)(x:bn)(hg:di w x)(hn:x.p.a.top.length<=1000000):
  Calls prog 187 #[.agg q.cells,.agg x.cells] w (xX w (lK q x.p)):=by
 have mixed:prog.follows .mixedOrders=true:=by kernel_rfl
 obtain⟨P,hP⟩:=Nm (xX w (lK q x.p));rw[<-hP];obtain⟨lv,aa⟩:=Nm (lF q x.p.a);have HP:Hid (∀wz a n c,bC wz (.slice a n c) lv->Bw w wz->(∀j,a=some j->w.heap.size<=j.block)->P (.returned (.agg #[.bool false,.int .i64 0,.string ⟨#[]⟩,.int .i64 0,.int .i64 0,Sv x.p.w.key,.int .i64 x.p.w.lo,.int .i64 x.p.w.hi,.int .i64 x.p.r,.slice a n c])) wz):=by
  rw[hP,aa];exact Lh (λwz a n c h N hN=>⟨.slice a n c,rfl,rfl,h,N,λa' n' c' e=>by cases e;exact hN _ rfl⟩)
 obtain⟨Y,E⟩:=Nm (((w.alloc (.cells q.cells 23)).alloc (.cells x.cells 131)).alloc (.cells #[.bool false,.int .i64 0,.string ⟨#[]⟩,.int .i64 0,.int .i64 0,.string ⟨#[]⟩,.int .i64 0,.int .i64 0,.int .i64 0,.slice none 0 0] 37));obtain⟨qb,XW⟩:=Nm (w.heap.size);obtain⟨l,ab⟩:=Nm (w.heap.size+1);obtain⟨m,ac⟩:=Nm (w.heap.size+2);have ae:(w.alloc (.cells q.cells 23)).heap.size=w.heap.size+1:=bg w _;have O:((w.alloc (.cells q.cells 23)).alloc (.cells x.cells 131)).heap.size=w.heap.size+2:=by rw[bg,bg]
 have H1:Hid (dB Y qb q/\dw Y l x/\fH Y m dD/\Bw w Y):=by
  have h:=KT w q x;have N:=(Below.refl _ ((w.alloc (.cells q.cells 23)).alloc (.cells x.cells 131))).alloc (bfx _) (.cells #[.bool false,.int .i64 0,.string ⟨#[]⟩,.int .i64 0,.int .i64 0,.string ⟨#[]⟩,.int .i64 0,.int .i64 0,.int .i64 0,.slice none 0 0] 37);have hz:=bg5 ((w.alloc (.cells q.cells 23)).alloc (.cells x.cells 131)) (.cells #[.bool false,.int .i64 0,.string ⟨#[]⟩,.int .i64 0,.int .i64 0,.string ⟨#[]⟩,.int .i64 0,.int .i64 0,.int .i64 0,.slice none 0 0] 37);rw[O,<-ac]at hz;rw[<-E]at N hz;rw[XW,ab];exact Lh ⟨h.1.below N,h.2.1.below N,hz,h.2.2.trans (N.mono h.2.2.size)⟩
 have Om:Hid (w.heap.size<=m/\l<m/\qb<m/\m<Y.heap.size):=Lh ⟨by omega,by omega,by omega,H1.out.2.2.1.lt⟩
 obtain⟨VQ,Yi⟩:=Nm (Value.agg q.cells);obtain⟨VA,af⟩:=Nm (Value.agg (bJ x.p.a.n x.p.a.a x.tv x.z));obtain⟨VW,YY⟩:=Nm (Value.agg x.p.w.cells);have HC:Hid (∀b,Bw w b->Calls prog 225 #[VQ,VA] b (Fq b lv)):=by
  rw[Yi,af,aa];exact Lh (λb N=>KL b q x.p.a x.tv x.z (hg.1.below N) hg.2 hn)
 clear aa hg hn hP;obtain⟨y,size,d,D,agg,kq⟩:=q;obtain⟨⟨⟨F,I,J⟩,⟨n,a,top,u,v⟩,rd⟩,tv,z,ht,hz⟩:=x;have Zi:Hid (VQ=.agg #[.int .i64 y,.int .i64 size,.int .i64 d,.int .i64 D,.int .i64 agg,.int .i64 kq]):=Lh Yi;have OU:Hid (VA=.agg #[.int .i64 n,.int .i64 a,tv,z]):=Lh af;have eF:Hid (VW=.agg #[Sv F,.int .i64 I,.int .i64 J]):=Lh YY;clear Yi af YY;have HQ:Hid (∀b,dB b qb ⟨y,size,d,D,agg,kq⟩->D6 b qb y size d D agg kq):=Lh (λb h=>h.d6);unfold bu.cells at E ae O ⊢;unfold bn.cells at E O ⊢;simp only at E ae O HP;go_enter func187,ntmps187;go_upto_region 1 with fail;rw[<-E,<-ac,<-ab,<-XW];clear E ac ab XW ae O;obtain⟨X,hX⟩:=Nm (bn.mk ⟨⟨F,I,J⟩,⟨n,a,top,u,v⟩,rd⟩ tv z ht hz);have HD:Hid (∀b,dw b l X->D8 b l ⟨⟨⟨F,I,J⟩,⟨n,a,top,u,v⟩,rd⟩,tv,z,ht,hz⟩):=by rw[hX];exact Lh (λb h=>h.d8)
 obtain⟨Q,hQ⟩:=Nm (bu.mk y size d D agg kq);rw[<-hX,<-hQ]at H1;rw[<-hQ]at HQ;clear hX hQ;have aj:Hid (XJ w Y qb l m Q X F I J rd lv 0 Y.drew):=by
  have hd:=(Below.refl Y.heap.size Y).drew;exact Lh ⟨⟨H1.out.1.below hd,H1.out.2.1.below hd,H1.out.2.2.2.trans (hd.mono H1.out.2.2.2.size),hd.size⟩,fH.below H1.out.2.2.1 hd⟩
 refine wp_region_skip_frame (λi=>([]:List Nat).contains i) (by kernel_rfl) (NoF [none,none,none,none,some 0]) [9] (V4 ((Value.pointer (some ⟨l,0,none⟩))::VW::(Value.pointer (some ⟨l,7,none⟩))::(Value.int .i64 rd)::VQ::(Value.pointer (some ⟨l,3,none⟩))::VA::([undef,undef,undef]:List Value)) 7 (λk b v=>∃o R S,v=.slice o R S/\(k=0->bC b (.slice o R S) lv/\∀j,o=some j->m<j.block)) 8 (λk b v=>∃o R S,v=.agg #[.bool false,.int .i64 0,.string ⟨#[]⟩,.int .i64 0,.int .i64 0,Sv F,.int .i64 I,.int .i64 J,.int .i64 rd,.slice o R S]/\(k=0->bC b (.slice o R S) lv/\∀j,o=some j->m<j.block)) 99 (λ_ _ _=>True) 99 (λ_ _ _=>True)) (XJ w Y qb l m Q X F I J rd lv) (λw b=>Bw w b) (wP _ (λk w b v h ha=>by obtain⟨a,n,c,h1,h2⟩:=ha;exact⟨a,n,c,h1,λe=>⟨(h2 e).1.below h,(h2 e).2⟩⟩) (λk w b v h ha=>by obtain⟨a,n,c,h1,h2⟩:=ha;exact⟨a,n,c,h1,λe=>⟨(h2 e).1.below h,(h2 e).2⟩⟩) (λ_ _ _ _ _ h=>h) (λ_ _ _ _ _ h=>h)) (by kernel_rfl) (by kernel_rfl) (by kernel_rfl) aj.out (λ_=>⟨rfl,rfl,rfl,rfl,rfl,rfl,rfl,rfl,rfl,rfl,trivial⟩) (λ_ h=>by simp at h) ?_ ?_
 ·refine ⟨?_,?_,?_,?_,?_,?_,?_,?_,?_,?_,trivial⟩<;>(first|(intro _ kk a b s XR Z K hK;guard_hyp b:World)|intro _ a b s XR Z K hK)<;>replace XR:=Lh XR<;>replace Z:=Lh Z
  have q3:=FaA XR 3 l 0;rotate_left
  ·have q5:=Pa a 5 l 0 Z.out.1;obtain⟨e0,e1,e2,e3,e4,e5,e6,e7⟩:=HD.out _ s.1.2.1;go_step;exact hK _ _ eF.out.symm s Br
  have q3:=FaA XR 3 l 0;rotate_left;have q7:=Pa a 7 l 7 Z.out.1;obtain⟨e0,e1,e2,e3,e4,e5,e6,e7⟩:=HD.out _ s.1.2.1;rotate_left
  ·have q2:=FaA XR 2 qb 0;obtain⟨d0,d1,d2,d3,d4,d5⟩:=HQ.out _ s.1.1;go_step;exact hK _ _ Zi.out.symm s Br
  have q3:=FaA XR 3 l 0;rotate_left
  ·have al:=Pa a 10 l 3 Z.out.1;obtain⟨e0,e1,e2,e3,e4,e5,e6,e7⟩:=HD.out _ s.1.2.1;go_step;exact hK _ _ OU.out.symm s Br
  ·have q9:=Ep a 9 VQ Z.out.1;have q11:=Ep a 11 VA Z.out.2.1;have HG:=Lh s;clear s;go_step;refine(HC.out b HG.out.1.2.2.1).mono ?_;rintro e w3 ⟨tv,rfl,hI,N,hN⟩;obtain⟨L,M,rfl,_⟩:=id hI;exact hK _ _ ⟨L,_,M,rfl,λe=>⟨hI,λj h=>by have:=hN j _ _ (by rw[h]);have:=HG.out.1.2.2.2;have:=Om.out;omega⟩⟩ ⟨HG.out.1.below N,HG.out.2.below N⟩ N
  ·obtain ⟨p0,p1,p2,_⟩:=Z.out;have r6:=(show a.eval (.tmp 6)=VW from p0);have r8:=(show a.eval (.tmp 8)=.int .i64 rd from p1);obtain⟨L,U,M,hv,hh⟩:=(show ∃o R S,a.eval (.tmp 12)=.slice o R S/\(kk=0->bC b (.slice o R S) lv/\∀j,o=some j->m<j.block)from p2);rw[eF.out]at r6;have hb:=Qa F I J rd L U M;have ag:(#[(2,Operand.tmp 6),(3,Operand.tmp 8),(4,Operand.tmp 12)].map λ(i,x)=>(i,a.eval x)).toList=[(2,.agg #[Sv F,.int .i64 I,.int .i64 J]),(3,.int .i64 rd),(4,.slice L U M)]:=by simp only[bgb,bgc,bge,r6,r8,hv]
   refine wp_build 37 #[(2,.tmp 6),(3,.tmp 8),(4,.tmp 12)] rfl (by rw[ag,hb];rfl) ?_
   rw[ag,hb];exact hK _ _ ⟨L,U,M,rfl,hh⟩ s Br
  ·obtain ⟨p0,_⟩:=Z.out;obtain⟨L,U,M,hv,hh⟩:=(show ∃o R S,a.eval (.tmp 13)=.agg #[.bool false,.int .i64 0,.string ⟨#[]⟩,.int .i64 0,.int .i64 0,Sv F,.int .i64 I,.int .i64 J,.int .i64 rd,.slice o R S]/\(0=0->bC b (.slice o R S) lv/\∀j,o=some j->m<j.block)from p0);obtain⟨j1,j2⟩:=hh rfl;have q4:=((XR.out 4 rfl).trans (show _=Value.pointer (some ⟨m,0,none⟩)from rfl));obtain⟨⟨g0,g1,g2,g3⟩,g4⟩:=s;clear p0 hh;refine wp_store_row _ (.tmp 4) (.tmp 13) rfl m #[.bool false,.int .i64 0,.string ⟨#[]⟩,.int .i64 0,.int .i64 0,Sv F,.int .i64 I,.int .i64 J,.int .i64 rd,.slice L U M] q4 hv _ dD.cells g4 fE rfl (jl (⟨⟨false,zeroI,⟨F,I,J⟩,rd,[]⟩,.slice L U M,rfl⟩:bH)) ?_;have hg:=bD b m #[.bool false,.int .i64 0,.string ⟨#[]⟩,.int .i64 0,.int .i64 0,Sv F,.int .i64 I,.int .i64 J,.int .i64 rd,.slice L U M];have hb:=Om.out;exact hK _ _ rfl ⟨⟨dB.below' g0 hg (by omega),g1.grown hg (by simp;omega),g2.trans (bQ hg hb.1 g2.size),bgn g3 hg.size⟩,L,U,M,setRow_heap _ _ _ _ _ _ g4,j1.grown hg (λa' n' c' e _=>by cases e;have:=j2 _ rfl;omega),j2⟩ (jE (.inr λu h=>h.imp λa h=>h.imp λn h=>h.imp λc h=>⟨h.1,λe=>absurd e (by decide)⟩) (.inr λu h=>h.imp λa h=>h.imp λn h=>h.imp λc h=>⟨h.1,λe=>absurd e (by decide)⟩) (.inr λ_ h=>h) (.inr λ_ h=>h))
  all_goals(go_step;exact hK _ _ rfl s Br)
 intro vs ak s ah hV
 match vs,ah,hV with
 | [v0,v1,v2,v3,v4,v5,v6,v7,v8,v9],_,hV=>
  clear hV;obtain⟨⟨_,_,ai,_⟩,L,U,M,hr,hI,hN⟩:=s;have HZ:=Lh (bfy hr (HP.out ak L U M hI ai (λj h=>by have:=hN j h;have:=Om.out;omega)))
  clear hr hI ai hN;simp only[putsL,bf7,bf1];simp only[Act.put,bfw,bfu,bfv];go_wp2_with fail;exact bodyPost_ret (v:=.agg #[.bool false,.int .i64 0,.string ⟨#[]⟩,.int .i64 0,.int .i64 0,Sv F,.int .i64 I,.int .i64 J,.int .i64 rd,.slice L U M]) (results_cell_row (p:=4) (ty:=37) rfl _ _ m 37 _ (0,0) _ rfl HZ.out.1 underlying37 rfl fE) rfl HZ.out.2
end Go.Proofs.YtgfmbkoieacgoaaGreatDoor
set_option maxRecDepth 100000
set_option maxHeartbeats 4000000
namespace Go.Proofs.YtgfmbkoieacgoaaGreatDoor
open Go Go.RowKit Go.Proofs.Tryz
def VS(w:World)(ws:List bf)(t:bf)(e:Ending)(w':World):Prop:=∃(p:Nat) (b:Bool),e=.returned (.tuple #[.int .i64 (p:Int),.bool b])/\jH ws t p/\(b=true↔p<ws.length/\sO ws p=t)/\Bw w w'
theorem Wy(w:World)(x:bn)(t:bf):
  dw ((w.alloc (.cells x.cells 131)).alloc (.cells t.cells 34)) w.heap.size x/\dH ((w.alloc (.cells x.cells 131)).alloc (.cells t.cells 34)) (w.heap.size+1) t/\Bw w ((w.alloc (.cells x.cells 131)).alloc (.cells t.cells 34)):=by
 have b:=(Below.refl _ w).alloc (bfx _) (.cells x.cells 131);have a:=(Below.refl _ (w.alloc (.cells x.cells 131))).alloc (bfx _) (.cells t.cells 34);have c:(w.alloc (.cells x.cells 131)).heap.size=w.heap.size+1:=bg w _;refine⟨dw.below (bg5 w _) a,?_,Tb b a⟩;rw[<-c];exact bg5 _ _
theorem BI(w:World)(x:bn)(t:bf):Calls prog 222 #[.agg x.cells,.agg t.cells] w (Below0 w (.int .i64 (jm x.p.w t))):=by
 obtain⟨r,k⟩:=Nm (jm x.p.w t);rw[<-k];obtain⟨h,a⟩:=Nm ((w.alloc (.cells x.cells 131)).alloc (.cells t.cells 34));obtain⟨D,b⟩:=Nm (w.heap.size);obtain⟨E,c⟩:=Nm (w.heap.size+1);have j:Hid (dw h D x/\dH h E t/\Bw w h):=by rw[a,b,c];exact Lh (Wy w x t)
 have l:Hid (Calls prog 183 #[.agg x.p.w.cells,.agg t.cells] h (Below0 h (.int .i64 r))):=by
  rw[k];exact Lh (nO h x.p.w t)
 have m:=Lh j.out.2.2;have d:(w.alloc (.cells x.cells 131)).heap.size=w.heap.size+1:=bg w _;clear k;obtain⟨⟨⟨I,J,K⟩,⟨L,M,N,O,Q⟩,R⟩,S,U,Y,Z⟩:=x;obtain⟨tk,tl,th⟩:=t;obtain⟨n,o,q,_⟩:=j.out.1.d8;obtain⟨s,u,y⟩:=j.out.2.1.d3;unfold bn.cells at a d ⊢;unfold bf.cells at a l ⊢;simp only at a d l n o q s u y;clear j;go_enter func222,ntmps222;go_upto_region 1 with fail;rw[<-a,<-c,<-b];clear a c b d;go_wp2_with fail;refine l.out.mono ?_;rintro e w2 ⟨rfl,z⟩;have F:=Lh (Tb m.out z);clear z n o q s u y;dsimp only;go_wp2_with fail;go_ret;exact⟨rfl,F.out⟩
theorem FP(w:World)(sa:Option Addr)(sc:Nat)(l:List bn)(t:bf)(hA:dS w sa l)(hs:(l.map λx=>x.p.w).Pairwise bK)(hn:l.length<=1000000):
  Calls prog 221 #[.slice sa l.length sc,.agg t.cells,.func (.func 222) #[] #[]] w (VS w (l.map λx=>x.p.w) t):=by
 obtain⟨n,aj⟩:=Nm (l.length);obtain⟨D,aa⟩:=Nm (l.map λx=>x.p.w);rw[<-aa]at hs ⊢;have J:Hid (n=l.length):=Lh aj;clear aj;have HW:Hid (∀(i:Nat) (x:bn),l[i]? =some x->D[i]? =some x.p.w):=Lh (λi x h=>by rw[aa,bgf,h];rfl)
 have hN:n=D.length:=by rw[aa,bfz,J.out]
 obtain⟨P,hP⟩:=Nm (VS w D t);rw[<-hP,<-J.out];have ak:n<=1000000:=by have:=J.out;omega
 have N:Hid (n=D.length/\n<=1000000):=Lh ⟨hN,ak⟩;have HA:=Lh hA;have XY:Hid (∀wz (p:Nat) b,jH D t p->(b=true↔p<D.length/\sO D p=t)->Bw w wz->P (.returned (.tuple #[.int .i64 (p:Int),.bool b])) wz):=Lh (λwz p b h h' M=>by
  rw[hP];exact⟨p,b,rfl,h,h',M⟩)
 have HM:Hid (∀i j,i<=j->j<n->bK (sO D j) t->bK (sO D i) t):=by
  refine Lh (λi j au hj h=>?_);rw[hN]at hj;rcases bg1 i j with h' | h'
  ·have:=List.pairwise_iff_getElem.1 hs i j (by omega) hj h'
   rw[fJ (bfs hj)]at h;rw[fJ (bfs (show i<D.length by omega))]
   exact this.trans h
  obtain rfl:i=j:=by omega
  exact h
 obtain⟨w1,O⟩:=Nm (w.alloc (.cells t.cells 34));obtain⟨tb,ae⟩:=Nm (w.heap.size);have H1:Hid (dH w1 tb t/\Bw w w1):=by
  rw[O,ae];exact Lh ⟨bg5 w _,(Below.refl _ w).alloc (bfx _) _⟩
 obtain⟨T,hT⟩:=Nm t;have HT:=Lh hT;rw[<-hT]at H1 XY HM;obtain⟨tk,tl,th⟩:=t;unfold bf.cells at O ⊢;simp only at O ⊢;clear hN hA hn hP hs hT aa;go_enter func221,ntmps221;go_upto_region 1 with fail;rw[<-O,<-ae];clear O ae;go_wp2_with fail;go_loopw[9,10] (PE w1 D T) (λa b _=>Vw a b)
 case atStart=>exact⟨0,n,rfl,rfl,bgi _,by rw[N.out.1];exact bfx _,λi h=>absurd h (Nat.not_lt_zero _),λi h1 h2=>by have:=N.out.1;omega,Br⟩
 case round=>
  obtain⟨lo,hi,rfl,rfl,Q,F,h1,h2,M⟩:=hrel;rw[<-N.out.1]at F h2;have HB:=Lh (bfy h1 (bfy h2 (bfy M (bfy Q F))));clear h1 h2 M;have ab:Hid (Bw wr wr.drew):=(Below.refl _ wr).drew;have af:Hid (∀c,Bw wr c->D3 c tb tk tl th):=by
   refine Lh (λc h=>?_);have:=((H1.out.1.below HB.out.2.2.1).below h).d3;rw[HT.out]at this;exact this
  obtain⟨VT,YQ⟩:=Nm (Value.agg #[Sv tk,.int .i64 tl,.int .i64 th]);have oN:=Lh YQ;have R:Hid (∀c,Bw wr c->Bw w1 c):=Lh (λc h=>HB.out.2.2.1.trans (h.mono HB.out.2.2.1.size));by_cases ac:lo<hi
  ·obtain⟨m,hm⟩:=Nm ((lo+hi) / 2);have S:lo<=m/\m<hi:=by omega
   have al:((lo:Int)+(hi:Int)) / 2=(m:Int):=by omega
   obtain⟨x,q,s,hx,ag,_⟩:=HA.out.get (t:=m) (by rw[<-J.out];omega)
   subst ag;have HX:Hid (∀c,Bw wr c->c.cell? ⟨q,s+m*8,none⟩=some (Sv x.p.w.key)/\c.cell? ⟨q,s+m*8+1,none⟩=some (.int .i64 x.p.w.lo)/\c.cell? ⟨q,s+m*8+2,none⟩=some (.int .i64 x.p.w.hi)/\c.cell? ⟨q,s+m*8+3,none⟩=some (.int .i64 x.p.a.n)/\c.cell? ⟨q,s+m*8+4,none⟩=some (.int .i64 x.p.a.a)/\c.cell? ⟨q,s+m*8+5,none⟩=some (x.tv)/\c.cell? ⟨q,s+m*8+6,none⟩=some (x.z)/\c.cell? ⟨q,s+m*8+7,none⟩=some (.int .i64 x.p.r)):=by
    refine Lh (λc h=>?_);obtain⟨x',b',o',U,ah,d⟩:=((HA.out.below H1.out.2).below (R.out c h)).get (t:=m) (by rw[<-J.out];omega)
    cases ah
    rw[hx]at U;cases U
    exact d
   obtain⟨VX,YV⟩:=Nm (Value.agg x.cells);obtain⟨p,hp⟩:=Nm (jm x.p.w T);have Zu:Hid (∀c,Calls prog 222 #[VX,VT] c (Below0 c (.int .i64 p))):=by
    rw[YV,YQ,hp,HT.out];exact Lh (λc=>BI c x ⟨tk,tl,th⟩)
   have ZQ:=Lh YV;have am:Hid (p<0↔bK (sO D m) T):=by
    rw[hp,fJ (HW.out m x hx)];exact Lh (jQ _ _)
   have L:Hid ((0:Int)<=(m:Int)/\(m:Int)<(n:Int)):=Lh (by omega)
   have Hm:=Lh (bfy S (bfy F ak));obtain⟨⟨⟨xk,xl,xh⟩,⟨xn,xa,xt,xu,xv⟩,xr⟩,X6,xz,X9,Yb⟩:=x;clear hx YV hp hm;by_cases Y:p<0
   ·have ZE:Hid (p<0):=Lh Y;have HZ:Hid (∀c,Bw wr c->PE w1 D T (.int .i64 ((m:Int)+1)) (.int .i64 (hi:Int)) c):=by
     refine Lh (λc h=>⟨m+1,hi,by go_num,rfl,by have:=Hm.out;omega,by rw[<-N.out.1];exact Hm.out.2.1,λi h1=>?_,by rw[<-N.out.1];exact HB.out.2.1,R.out c h⟩)
     exact HM.out i m (by omega) (by have:=Hm.out;omega) (am.out.1 ZE.out)
    clear Y;go_upto_region 5 with fail;clear al S ac Q F YQ;refine wp_region_skip_frame (λi=>([]:List Nat).contains i) (by kernel_rfl) (NoF [none,none,none]) [] (λi_ _ _ v_=>v_=(((Value.func (.func 222) #[] #[])::(Value.slice (some ⟨q,s,none⟩) n sc)::(Value.int .i64 (m:Int))::(Value.pointer (some ⟨q,s+m*8,none⟩))::VX::VT::([.int .i64 p,.bool true]:List Value))).getD i_ undef) (λ_ c=>Bw wr c) (λw c=>Bw w c) (λ_ _ _ _ _ _ h=>h) (by kernel_rfl) (by kernel_rfl) (by kernel_rfl) ab.out (λ_=>⟨rfl,rfl,rfl,rfl,rfl,rfl,rfl,rfl,trivial⟩) (λ_ h=>by simp at h) ?_ ?_
    ·refine ⟨?_,?_,?_,?_,?_,?_,?_,?_,trivial⟩<;>intro _ _ a c o u k K I<;>replace u:=Lh u<;>replace k:=Lh k
     have q2:=FoA u 2 (.func (.func 222) #[] #[]);rotate_left;have q0:=FoA u 0 (.slice (some ⟨q,s,none⟩) n sc);rotate_left;have q11:=FiA u 11 m;rotate_left;have Zq:=Ep a 25 (.slice (some ⟨q,s,none⟩) n sc) k.out.1;have ZM:=Pi a 26 m k.out.2.1;have ad:=L.out;rotate_left
     ·have Zz:=Ep a 27 (.pointer (some ⟨q,s+m*8,none⟩)) k.out.1;obtain⟨d0,d1,d2,d3,d4,d5,d6,d7⟩:=HX.out c o;go_step;exact I _ _ ZQ.out.symm o Br
     ·have q4:=FaA u 4 tb 0;obtain⟨d0,d1,d2⟩:=af.out c o;go_step;exact I _ _ oN.out.symm o Br
     ·have an:=Ep a 24 (.func (.func 222) #[] #[]) k.out.1;have aT:=Ep a 28 VX k.out.2.1;have aU:=Ep a 29 VT k.out.2.2.1;have HS:=Lh (Zu.out c);go_step;refine HS.out.mono ?_;rintro e w3 ⟨rfl,M⟩;exact I _ _ rfl (Tb o M) M
     have ao:=Pi a 30 p k.out.1;have hp:=ZE.out;rotate_left
     all_goals(go_step;exact I _ _ rfl o Br)
    intro vs w2 o y E
    match vs,y,E with
    | [v0,v1,v2,v3,v4,v5,v6,v7],_,E=>
     obtain rfl:v7=.bool true:=(E 7 31 v7 rfl rfl);clear E;simp only[putsL,bf7,bf1];simp only[Act.put,bfw,bfu,bfv];have Zk:=Lh (HZ.out w2 o);have oH:=Lh Hm.out;have iO:(m:Int)<=1000000:=by have:=Hm.out;omega
     clear o;go_wp2_with fail;go_roundw
     case rel=>exact Zk.out
     case measure=>have:=oH.out;show(hi:Int).toNat-((m:Int)+1).toNat<(hi:Int).toNat-(lo:Int).toNat;omega
   have ZE:Hid (decide (p<0)=false):=Lh (bfq Y);have HZ:Hid (∀c,Bw wr c->PE w1 D T (.int .i64 (lo:Int)) (.int .i64 (m:Int)) c):=by
    refine Lh (λc h=>⟨lo,m,rfl,rfl,Hm.out.1.1,by rw[<-N.out.1];have:=Hm.out;omega,HB.out.1,λi h1 h2 hc=>?_,R.out c h⟩)
    exact Y (am.out.2 (HM.out m i h1 (by rw[N.out.1];exact h2) hc))
   clear Y;go_upto_region 5 with fail;clear al S ac Q F YQ;refine wp_region_skip_frame (λi=>([]:List Nat).contains i) (by kernel_rfl) (NoF [none,none,none]) [] (λi_ _ _ v_=>v_=(((Value.func (.func 222) #[] #[])::(Value.slice (some ⟨q,s,none⟩) n sc)::(Value.int .i64 (m:Int))::(Value.pointer (some ⟨q,s+m*8,none⟩))::VX::VT::([.int .i64 p,.bool false]:List Value))).getD i_ undef) (λ_ c=>Bw wr c) (λw c=>Bw w c) (λ_ _ _ _ _ _ h=>h) (by kernel_rfl) (by kernel_rfl) (by kernel_rfl) ab.out (λ_=>⟨rfl,rfl,rfl,rfl,rfl,rfl,rfl,rfl,trivial⟩) (λ_ h=>by simp at h) ?_ ?_
   ·refine ⟨?_,?_,?_,?_,?_,?_,?_,?_,trivial⟩<;>intro _ _ a c o u k K I<;>replace u:=Lh u<;>replace k:=Lh k
    have q2:=FoA u 2 (.func (.func 222) #[] #[]);rotate_left;have q0:=FoA u 0 (.slice (some ⟨q,s,none⟩) n sc);rotate_left;have q11:=FiA u 11 m;rotate_left;have Zq:=Ep a 25 (.slice (some ⟨q,s,none⟩) n sc) k.out.1;have ZM:=Pi a 26 m k.out.2.1;have ad:=L.out;rotate_left
    ·have Zz:=Ep a 27 (.pointer (some ⟨q,s+m*8,none⟩)) k.out.1;obtain⟨d0,d1,d2,d3,d4,d5,d6,d7⟩:=HX.out c o;go_step;exact I _ _ ZQ.out.symm o Br
    ·have q4:=FaA u 4 tb 0;obtain⟨d0,d1,d2⟩:=af.out c o;go_step;exact I _ _ oN.out.symm o Br
    ·have an:=Ep a 24 (.func (.func 222) #[] #[]) k.out.1;have aT:=Ep a 28 VX k.out.2.1;have aU:=Ep a 29 VT k.out.2.2.1;have HS:=Lh (Zu.out c);go_step;refine HS.out.mono ?_;rintro e w3 ⟨rfl,M⟩;exact I _ _ rfl (Tb o M) M
    have ao:=Pi a 30 p k.out.1;have hp:=ZE.out;rotate_left
    all_goals(go_step;exact I _ _ rfl o Br)
   intro vs w2 o y E
   match vs,y,E with
   | [v0,v1,v2,v3,v4,v5,v6,v7],_,E=>
    obtain rfl:v7=.bool false:=(E 7 31 v7 rfl rfl);clear E;simp only[putsL,bf7,bf1];simp only[Act.put,bfw,bfu,bfv];have Zk:=Lh (HZ.out w2 o);have oH:=Lh Hm.out;have iO:(m:Int)<=1000000:=by have:=Hm.out;omega
    clear o;go_wp2_with fail;go_roundw
    case rel=>exact Zk.out
    case measure=>have:=oH.out;show(m:Int).toNat-(lo:Int).toNat<(hi:Int).toNat-(lo:Int).toNat;omega
  obtain rfl:hi=lo:=by omega
  have aJ:Hid (jH D T hi):=Lh ⟨by rw[<-N.out.1];exact F,HB.out.1,by rw[<-N.out.1];exact HB.out.2.1⟩
  have Yw:Hid (∀c b,(b=true↔hi<D.length/\sO D hi=T)->Bw wr c->P (.returned (.tuple #[.int .i64 (hi:Int),.bool b])) c):=Lh (λc b hb h=>XY.out c hi b aJ.out hb (H1.out.2.trans ((R.out c h).mono H1.out.2.size)));by_cases Z:hi<n
  ·obtain⟨x,q,s,hx,ag,_⟩:=HA.out.get (t:=hi) (by rw[<-J.out];omega)
   subst ag;have HX:Hid (∀c,Bw wr c->c.cell? ⟨q,s+hi*8,none⟩=some (Sv x.p.w.key)/\c.cell? ⟨q,s+hi*8+1,none⟩=some (.int .i64 x.p.w.lo)/\c.cell? ⟨q,s+hi*8+2,none⟩=some (.int .i64 x.p.w.hi)/\c.cell? ⟨q,s+hi*8+3,none⟩=some (.int .i64 x.p.a.n)/\c.cell? ⟨q,s+hi*8+4,none⟩=some (.int .i64 x.p.a.a)/\c.cell? ⟨q,s+hi*8+5,none⟩=some (x.tv)/\c.cell? ⟨q,s+hi*8+6,none⟩=some (x.z)/\c.cell? ⟨q,s+hi*8+7,none⟩=some (.int .i64 x.p.r)):=by
    refine Lh (λc h=>?_);obtain⟨x',b',o',U,ah,d⟩:=((HA.out.below H1.out.2).below (R.out c h)).get (t:=hi) (by rw[<-J.out];omega)
    cases ah
    rw[hx]at U;cases U
    exact d
   obtain⟨VX,YV⟩:=Nm (Value.agg x.cells);obtain⟨p,hp⟩:=Nm (jm x.p.w T);have Zu:Hid (∀c,Calls prog 222 #[VX,VT] c (Below0 c (.int .i64 p))):=by
    rw[YV,YQ,hp,HT.out];exact Lh (λc=>BI c x ⟨tk,tl,th⟩)
   have ZQ:=Lh YV;have L:Hid ((0:Int)<=(hi:Int)/\(hi:Int)<(n:Int)):=Lh (by omega)
   obtain⟨qz,ai⟩:=Nm (p==0);have HQ:=Lh ai;have HF:Hid (qz=true↔hi<D.length/\sO D hi=T):=by
    rw[ai,hp,fJ (HW.out hi _ hx),beq_iff_eq];refine Lh ⟨λh=>⟨by rw[<-N.out.1];exact Z,?_⟩,λh=>?_⟩
    ·rcases mF x.p.w T with⟨e,_⟩ | ⟨_,e⟩ | ⟨e,_⟩
     ·rw[e]at h;cases h
     ·exact e
     rw[e]at h;cases h
    rcases mF x.p.w T with⟨_,e⟩ | ⟨e,_⟩ | ⟨_,e⟩
    ·rw[h.2]at e;exact e.irrefl.elim
    ·exact e
    rw[h.2]at e;exact e.irrefl.elim
   obtain⟨⟨⟨xk,xl,xh⟩,⟨xn,xa,xt,xu,xv⟩,xr⟩,X6,xz,X9,Yb⟩:=x;clear hx YV hp Z ac Q F YQ ai;go_upto_region 8 with fail;refine wp_region_skip_frame (λi=>([]:List Nat).contains i) (by kernel_rfl) (NoF (NoF (NoF [none]))) [] (λi_ _ _ v_=>v_=(((Value.int .i64 (hi:Int))::(Value.int .i64 (hi:Int))::(Value.int .i64 (n:Int))::(Value.bool true)::(Value.bool true)::(Value.func (.func 222) #[] #[])::(Value.slice (some ⟨q,s,none⟩) n sc)::(Value.int .i64 (hi:Int))::(Value.pointer (some ⟨q,s+hi*8,none⟩))::VX::VT::([.int .i64 p,.bool qz,.bool qz,.int .i64 (hi:Int),.bool qz]:List Value))).getD i_ undef) (λ_ c=>Bw wr c) (λw c=>Bw w c) (λ_ _ _ _ _ _ h=>h) (by kernel_rfl) (by kernel_rfl) (by kernel_rfl) ab.out (λ_=>⟨rfl,rfl,rfl,rfl,rfl,IlA,IlA,IlA,IlA,IlA,IlA,IlA,IlA,rfl,rfl,rfl,trivial⟩) (λ_ h=>by simp at h) ?_ ?_
   ·refine ⟨?_,?_,?_,?_,?_,?_,?_,?_,?_,?_,?_,?_,?_,?_,?_,?_,trivial⟩<;>intro _ _ a c o u k K I<;>replace u:=Lh u<;>replace k:=Lh k
    have q9:=FiA u 9 hi;rotate_left;have q9:=FiA u 9 hi;rotate_left;have q8:=FiA u 8 n;rotate_left;have Aj:=Pi a 36 hi k.out.1;have ap:=Pi a 37 n k.out.2.1;have ad:=L.out;rotate_left;have ZX:=Ep a 38 (.bool true) k.out.1;rotate_left;have q2:=FoA u 2 (.func (.func 222) #[] #[]);rotate_left;have q0:=FoA u 0 (.slice (some ⟨q,s,none⟩) n sc);rotate_left;have q9:=FiA u 9 hi;rotate_left;have UR:=Ep a 41 (.slice (some ⟨q,s,none⟩) n sc) k.out.1;have I8:=Pi a 42 hi k.out.2.1;have ad:=L.out;rotate_left
    ·have Ak:=Ep a 43 (.pointer (some ⟨q,s+hi*8,none⟩)) k.out.1;obtain⟨d0,d1,d2,d3,d4,d5,d6,d7⟩:=HX.out c o;go_step;exact I _ _ ZQ.out.symm o Br
    ·have q4:=FaA u 4 tb 0;obtain⟨d0,d1,d2⟩:=af.out c o;go_step;exact I _ _ oN.out.symm o Br
    ·have uj:=Ep a 40 (.func (.func 222) #[] #[]) k.out.1;have Io:=Ep a 44 VX k.out.2.1;have UT:=Ep a 45 VT k.out.2.2.1;have HS:=Lh (Zu.out c);go_step;refine HS.out.mono ?_;rintro e w3 ⟨rfl,M⟩;exact I _ _ rfl (Tb o M) M
    have Am:=Pi a 46 p k.out.1;have e:=HQ.out.symm;rotate_left;have iy:=Ep a 39 (.bool true) k.out.1;have uk:=Ep a 47 (.bool qz) k.out.2.1;rotate_left;have ar:=Pi a 35 hi k.out.1;rotate_left;have iW:=Ep a 48 (.bool qz) k.out.1;rotate_left
    all_goals(go_step;exact I _ _ rfl o Br)
   intro vs w2 o y E
   match vs,y,E with
   | [v0,v1,v2,v3,v4,v5,v6,v7,v8,v9,v10,v11,v12,v13,v14,v15],_,E=>
    obtain rfl:v14=.int .i64 (hi:Int):=(E 14 6 v14 rfl rfl);obtain rfl:v15=.bool qz:=(E 15 7 v15 rfl rfl);clear E;simp only[putsL,bf7,bf1];simp only[Act.put,bfw,bfu,bfv];have Zk:=Lh (Yw.out w2 qz HF.out o);clear o;go_wp2_with fail;exact Zk.out
  have L:Hid (decide (hi<n)=false):=Lh (bfq Z);have HF:Hid (false=true↔hi<D.length/\sO D hi=T):=Lh ⟨λh=>(by cases h),λh=>absurd h.1 (by rw[<-N.out.1];exact Z)⟩
  clear Z ac Q F YQ;go_upto_region 8 with fail;refine wp_region_skip_frame (λi=>([5,6,7,8,9,10,11,12]:List Nat).contains i) (by kernel_rfl) (NoF (NoF (NoF [none]))) [] (λi_ _ _ v_=>v_=((([.int .i64 (hi:Int),.int .i64 (hi:Int),.int .i64 (n:Int),.bool false,.bool false,undef,undef,undef,undef,undef,undef,undef,undef,.bool false,.int .i64 (hi:Int),.bool false]:List Value))).getD i_ undef) (λ_ c=>Bw wr c) (λw c=>Bw w c) (λ_ _ _ _ _ _ h=>h) (by kernel_rfl) (by kernel_rfl) (by kernel_rfl) ab.out (λ_=>⟨rfl,rfl,rfl,rfl,rfl,IlA,IlA,IlA,IlA,IlA,IlA,IlA,IlA,rfl,rfl,rfl,trivial⟩) (λi hi=>by have hm:=List.contains_iff_mem.1 hi;simp only[bf2,bf9,or_false]at hm;rcases hm with rfl | rfl | rfl | rfl | rfl | rfl | rfl | rfl <;> exact⟨rfl,λ_ _=>rfl⟩) ?_ ?_
  ·refine ⟨?_,?_,?_,?_,?_,?_,?_,?_,?_,?_,?_,?_,?_,?_,?_,?_,trivial⟩<;>(first|exact λh=>absurd h (by decide)|intro _ _ a c o u k K I)<;>replace u:=Lh u<;>replace k:=Lh k
   have q9:=FiA u 9 hi;rotate_left;have q9:=FiA u 9 hi;rotate_left;have q8:=FiA u 8 n;rotate_left;have Aj:=Pi a 36 hi k.out.1;have ap:=Pi a 37 n k.out.2.1;have ad:=L.out;rotate_left;have ZX:=Ep a 38 (.bool false) k.out.1;rotate_left;have iy:=Ep a 39 (.bool false) k.out.1;have uk:=Ep a 47 undef k.out.2.1;rotate_left;have ar:=Pi a 35 hi k.out.1;rotate_left;have iW:=Ep a 48 (.bool false) k.out.1;rotate_left
   all_goals(go_step;exact I _ _ rfl o Br)
  intro vs w2 o y E
  match vs,y,E with
  | [v0,v1,v2,v3,v4,v5,v6,v7,v8,v9,v10,v11,v12,v13,v14,v15],_,E=>
   obtain rfl:v14=.int .i64 (hi:Int):=(E 14 6 v14 rfl rfl);obtain rfl:v15=.bool false:=(E 15 7 v15 rfl rfl);clear E;simp only[putsL,bf7,bf1];simp only[Act.put,bfw,bfu,bfv];have Zk:=Lh (Yw.out w2 false HF.out o);clear o;go_wp2_with fail;exact Zk.out
end Go.Proofs.YtgfmbkoieacgoaaGreatDoor
set_option maxRecDepth 100000
set_option maxHeartbeats 8000000
namespace Go.Proofs.YtgfmbkoieacgoaaGreatDoor
open Go Go.RowKit Go.Proofs.Tryz
def PP(Vs:List Value):List (Nat × (Nat->World->Value->Prop))->Nat->Nat->World->Value->Prop
 | [],i,_,_,v=>v=Vs.getD i undef
 | (n,A)::r,i,k,w,v=>cond (Nat.beq i n) (A k w v) (PP Vs r i k w v)
theorem vK {a:List Value}(le:World->World->Prop):∀(L:List (Nat × (Nat->World->Value->Prop))),(∀p∈L,∀k w w' v,le w w'->p.2 k w v->p.2 k w' v)->∀i k w w' v,le w w'->PP a L i k w v->PP a L i k w' v
 | [],_,_,_,_,_,_,_,h=>h
 | (n,A)::r,hL,i,k,w,w',v,hl,h=>by
  unfold PP at h ⊢;cases e:Nat.beq i n <;> rw[e]at h
  ·exact vK le r (λp b=>hL p (List.mem_cons_of_mem _ b)) i k w w' v hl h
  exact hL (n,A) (List.mem_cons_self ..) k w w' v hl h
theorem jq {c:List Value} {i k m:Nat} {w w':World} {l:List Oper} {a:Act}:∀(L:List (Nat × (Nat->World->Value->Prop))),(∀p∈L,i=p.1∨∀d,dstAt l p.1=some d->p.2 k w (a.eval (.tmp d))->p.2 m w' (a.eval (.tmp d)))->∀j d,j≠i->dstAt l j=some d->PP c L j k w (a.eval (.tmp d))->PP c L j m w' (a.eval (.tmp d))
 | [],_,_,_,_,_,h=>h
 | (n,A)::r,hL,j,d,hj,hd,h=>by
  unfold PP at h ⊢;cases e:Nat.beq j n <;> rw[e]at h
  ·exact jq r (λp q=>hL p (List.mem_cons_of_mem _ q)) j d hj hd h
  have o:=Nat.eq_of_beq_eq_true e;rcases hL (n,A) (List.mem_cons_self ..)with b | b
  ·exact absurd (o.trans b.symm) hj
  exact b d (by rw[<-o];exact hd) h
def xY(w:World)(v:Value)(ws:List bf):Prop:=∃a c,v=.slice a ws.length c/\ws.length<=c/\fZ w a ws
def Vh(v:Value)(n:Nat):Prop:=∃a c,v=.slice a n c
theorem xY.below {w w':World} {v:Value} {b:List bf}(h:xY w v b)(d:Bw w w'):xY w' v b:=by
 obtain⟨a,c,e,j,k⟩:=h;exact⟨a,c,e,j,k.below d⟩
theorem Su {k:List (BitVec 8)} {z:Int}(h:Sv k=.int .i64 z):False:=by
 unfold Sv at h;cases h
theorem xY.store {w w':World} {v:Value} {q:List bf} {b:Nat}(h:xY w v q)(E:∀x∈q,x.rightB=true)(F:dH w b bF)(I:w.grownBy w' (some b)):xY w' v q:=by
 obtain⟨a,c,p,J,l⟩:=h;refine⟨a,c,p,J,?_⟩;rcases l with l | ⟨r,o,K,l⟩
 ·exact .inl l
 refine .inr ⟨r,o,K,λi x s j u L=>?_⟩;have D:=l i x s j u L;have y:r≠b:=by
  rintro rfl;have d:=l i x s 0 _ rfl;have M:=bU (E x (bf3 s));rw[cell_of_row _ _ _ _ _ _ F]at d;have m:x.key≠[]:=λe=>by
   have p:=M.1;rw[e]at p
   revert p
   decide
  have k:=(Array.getElem?_eq_some_iff.1 d).1;have n:o+i*3+0<3:=k
  match ho:o+i*3+0,n,d with
  | 0,_,d=>
   have e:Sv ([]:List (BitVec 8))=Sv x.key:=Option.some.inj d;unfold Sv at e;exact m (D7 (congrArg ByteArray.toList (Value.string.inj e))).symm
  | 1,_,d=>exact Su (Option.some.inj d).symm
  | 2,_,d=>exact Su (Option.some.inj d).symm
 have k:=block_lt_of_cell D;have z:=I.block r k (by simpa using y)
 rw[<-D];unfold World.cell?;simp only[z]
def V8(B:Nat)(ws ts:List bf)(gl:Nat)(Yh:bf):List (Nat × (Nat->World->Value->Prop)):=
 [(1,λ_ w v=>xY w v ws),(3,λ_ w v=>∃x u,v=.tuple #[x,.agg Yh.cells,u]/\xY w x ts/\Vh u gl),(4,λ_ w v=>∃x u,v=.tuple #[x,.agg Yh.cells,u]/\xY w x ts/\Vh u gl),(5,λ_ w v=>xY w v ts),(7,λ_ _ v=>Vh v gl),
  (8,λk w v=>∃b,v=.pointer (some ⟨b,0,none⟩)/\B<=b/\dH w b (if k<=1 then bF else Yh)),(9,λ_ w v=>xY w v ts),(11,λ_ _ v=>Vh v gl)]
theorem V9 {B:Nat} {l m:List bf} {gl:Nat} {n:bf}:∀p∈V8 B l m gl n,∀k w w' v,Bw w w'->p.2 k w v->p.2 k w' v:=by
 intro p j k w w' v a h;simp only[V8,bf2,bf9,or_false]at j;rcases j with rfl | rfl | rfl | rfl | rfl | rfl | rfl | rfl
 ·exact xY.below h a
 ·obtain⟨x,u,c,d,e⟩:=h;exact⟨x,u,c,d.below a,e⟩
 ·obtain⟨x,u,c,d,e⟩:=h;exact⟨x,u,c,d.below a,e⟩
 ·exact xY.below h a
 ·exact h
 ·obtain⟨b,c,d,e⟩:=h;exact⟨b,c,d,e.below a⟩
 ·exact xY.below h a
 exact h
theorem RX {B:Nat} {r s:List bf} {gl:Nat} {y:bf} {w w':World} {b:Nat} {l:List Oper} {a:Act}(k:∀x∈r,x.rightB=true)(c:∀x∈s,x.rightB=true)(E:dstAt l 8=some 10)(F:a.eval (.tmp 10)=.pointer (some ⟨b,0,none⟩))(e:dH w b bF)(m:B<=b)(j:w.grownBy w' (some b))(I:dH w' b y):
  ∀p∈V8 B r s gl y,10=p.1∨∀d,dstAt l p.1=some d->p.2 1 w (a.eval (.tmp d))->p.2 2 w' (a.eval (.tmp d)):=by
 intro p z;simp only[V8,bf2,bf9,or_false]at z;rcases z with rfl | rfl | rfl | rfl | rfl | rfl | rfl | rfl
 ·exact .inr λd _ h=>xY.store h k e j
 ·exact .inr λd _ ⟨x,u,n,o,q⟩=>⟨x,u,n,o.store c e j,q⟩
 ·exact .inr λd _ ⟨x,u,n,o,q⟩=>⟨x,u,n,o.store c e j,q⟩
 ·exact .inr λd _ h=>xY.store h c e j
 ·exact .inr λd _ h=>h
 ·refine .inr λd D _=>?_;rw[E]at D;cases D
  exact⟨b,F,m,I⟩
 ·exact .inr λd _ h=>xY.store h c e j
 exact .inr λd _ h=>h
theorem PK {B:Nat} {m n:List bf} {gl:Nat} {o:bf} {w w':World} {l:List Oper} {a:Act}(b:Bw w w'):∀p∈V8 B m n gl o,8=p.1∨∀d,dstAt l p.1=some d->p.2 0 w (a.eval (.tmp d))->p.2 1 w' (a.eval (.tmp d)):=by
 intro p k;simp only[V8,bf2,bf9,or_false]at k;rcases k with rfl | rfl | rfl | rfl | rfl | rfl | rfl | rfl
 ·exact .inr λd _ h=>xY.below h b
 ·exact .inr λd _ ⟨x,u,c,e,j⟩=>⟨x,u,c,e.below b,j⟩
 ·exact .inr λd _ ⟨x,u,c,e,j⟩=>⟨x,u,c,e.below b,j⟩
 ·exact .inr λd _ h=>xY.below h b
 ·exact .inr λd _ h=>h
 ·exact .inl rfl
 ·exact .inr λd _ h=>xY.below h b
 exact .inr λd _ h=>h
theorem dG {P:Program} {e:Func} {p s u:Tmp} {ty:TypeId}(h:e.results=#[.cell p ty,.tmp s,.tmp u])(a:Array Value)(w:World)(g:Nat)(t:TypeId)(b:Array Value)(j:Nat × Nat)(d:TypeDesc)
  (k:a.getD p undef=.pointer (some ⟨g,0,none⟩)) (l:w.heap[g]? =some (.cells b t j)) (m:P.underlying ty=some d) (n:(match d with | .struct _ | .array _ _=>true | _=>false)=true) (o:(P.info? ty).map (·.size)=some b.size):
  (results e a).run P w=.ok (.tuple #[.agg b,a.getD s undef,a.getD u undef]) w:=by
 have c:a[p]?.getD undef=.pointer (some ⟨g,0,none⟩):=by simpa using k
 simp[results,h,c,asAddr,run_loadVar_row w g t ty b j d l m n o]
def HomeEnd(w:World)(q:bu)(l:List bn)(W:bf)(e:Ending)(w':World):Prop:=∃A G B:List bn,l=A++G++B/\G.map bn.p=fO q (l.map bn.p) W/\(A++B).map bn.p=pg q (l.map bn.p) W/\
 (∀a∈A,bK a.p.w (dV q (l.map bn.p) W))/\(∀x∈B,bK (dV q (l.map bn.p) W) x.p.w)/\e=.returned (.tuple #[.agg (dV q (l.map bn.p) W).cells,.int .i64 (A.length:Int),.int .i64 ((A.length+G.length:Nat):Int)])/\Bw w w'
theorem QE {l:List bn} {A G B:List bY}(h:l.map bn.p=A++G++B):∃a g b:List bn,l=a++g++b/\a.map bn.p=A/\g.map bn.p=G/\b.map bn.p=B:=by
 obtain⟨n,b,c,d,e⟩:=List.map_eq_append_iff.1 h;obtain⟨a,g,j,k,m⟩:=List.map_eq_append_iff.1 d;exact⟨a,g,b,by rw[c,j],k,m,e⟩
theorem SH(w:World)(q:bu)(x:bf):
  let W:=((w.alloc (.cells q.cells 23)).alloc (.cells x.cells 34)).alloc (.cells bF.cells 34)
  dB W w.heap.size q/\dH W (w.heap.size+1) x/\dH W (w.heap.size+2) bF/\Bw w W/\W.heap.size=w.heap.size+3:=by
 intro W;obtain⟨c,d,e⟩:=KW w q x;have b:((w.alloc (.cells q.cells 23)).alloc (.cells x.cells 34)).heap.size=w.heap.size+2:=by rw[bg,bg]
 have a:=(Below.refl _ ((w.alloc (.cells q.cells 23)).alloc (.cells x.cells 34))).alloc (bfx _) (.cells bF.cells 34);refine⟨c.below a,d.below a,?_,Tb e a,by show(World.alloc _ _).heap.size=_;rw[bg,b]⟩
 rw[<-b];exact bg5 _ _
theorem QL(w:World)(q:bu)(sa:Option Addr)(sc:Nat)(l:List bn)(W:bf)(hA:dS w sa l)(hk:∀x∈l,x.p.w.key.length<=1000000)(hp:fG q (l.map bn.p)=true)(hW:W.rightB=true)(Aa:W.key.length<=1000000)(hn:l.length<=800):
    Calls prog 185 #[.agg q.cells,.slice sa l.length sc,.agg W.cells] w (HomeEnd w q l W):=by
  have mixed:prog.follows .mixedOrders=true:=by kernel_rfl
  obtain⟨A0,B0,al,ax,am,an⟩:=Bo hp hW;obtain⟨lA,lG,lB,hl,ao,Uz,ay⟩:=QE al;obtain⟨P,hP⟩:=Nm (HomeEnd w q l W);rw[<-hP];obtain⟨Q,Yn⟩:=Nm (dV q (l.map bn.p) W);obtain⟨O,az⟩:=Nm (lA.length);obtain⟨Z,Ii⟩:=Nm (lG.length);have HP:Hid (∀wz,Bw w wz->P (.returned (.tuple #[.agg Q.cells,.int .i64 (O:Int),.int .i64 ((O:Int)+(Z:Int))])) wz):=Lh (λwz o=>by
    rw[hP,Yn];refine⟨lA,lG,lB,hl,Uz,by rw[bgl,ao,ay,ax],λa ha=>am _ (by rw[<-ao];exact List.mem_map.2 ⟨a,ha,rfl⟩),λx hx=>an _ (by rw[<-ay];exact List.mem_map.2 ⟨x,hx,rfl⟩),by rw[az,Ii];simp,o⟩)
  have aA:A0.length=O:=by rw[az,<-ao,bfz]
  have Ug:(fO q (l.map bn.p) W).length=Z:=by rw[Ii,<-Uz,bfz]
  obtain⟨F,aa⟩:=Nm (((w.alloc (.cells q.cells 23)).alloc (.cells W.cells 34)).alloc (.cells #[.string ⟨#[]⟩,.int .i64 0,.int .i64 0] 34));obtain⟨qb,XW⟩:=Nm (w.heap.size);obtain⟨wb,af⟩:=Nm (w.heap.size+1);obtain⟨R,ag⟩:=Nm (w.heap.size+2);have H1:Hid (dB F qb q/\dH F wb W/\dH F R bF/\Bw w F/\F.heap.size=w.heap.size+3):=by rw[aa,XW,af,ag];exact Lh (SH w q W)
  have aB:Hid (w.heap.size<=R/\R<F.heap.size):=Lh ⟨by omega,by have:=H1.out.2.2.2.2;omega⟩
  obtain⟨n,hN⟩:=Nm (l.length);rw[<-hN];have aS:n<=800:=by omega
  have ah:O+Z<=800:=by
    have:=congrArg List.length hl;rw[bft,bft]at this;omega
  have aX:Q.key.length<=1000000:=by
    rw[Yn,dV]
    split
    · rw[(gZ (l:=gJ (l.map bn.p)) hW).2.1];exact Aa
    · exact Aa
  -- the two ways
  have Y0:Hid (q.kind=3->∃(ws ts:List bf) (gv:List Nat),ws.length=n/\ts.length<=1000000/\gv.length=Z/\(∀x∈ws,x.rightB=true)/\(∀x∈ts,x.rightB=true)/\
      (∀d,Bw w d->Calls prog 182 #[.slice sa n sc] d (qm d ws))/\
      (∀d a c,fZ d a ws->Calls prog 219 #[.slice a n c,.agg W.cells] d (FH d ts Q gv))/\
      (∀d a c,fZ d a ts->Calls prog 220 #[.slice a ts.length c,.agg Q.cells] d (Below0 d (.int .i64 (O:Int))))):=by
    refine Lh (λac=>?_);obtain⟨t1,t2,t3⟩:=xg ac hp hW ax am an;have ai:dM (gJ (l.map bn.p)):=by
      unfold fG at hp;rw[if_pos ac]at hp;exact bgh hp
    have aj:gJ (l.map bn.p)=l.map λx=>x.p.w:=by rw[gJ,List.map_map];rfl
    have aF:=tX ai hW;rw[aF]at t1;have aC:qh (gJ (l.map bn.p)) W=gJ A0++dV q (l.map bn.p) W::gJ B0:=(Prod.mk.inj t1).1;have ap:=(wJ ai hW).1.1;have ab:(gJ (l.map bn.p)).length=n:=by rw[gJ,bfz,bfz,hN]
    have ar:(qh (gJ (l.map bn.p)) W).length<=1000000:=by
      have h0:=congrArg List.length al;rw[aC];rw[bfz,bft,bft]at h0;simp only[bft,bgy,gJ,bfz];omega
    refine⟨_,_,vg (gJ (l.map bn.p)) W,ab,ar,by rw[t2,Ug],ai.1,ap,λd o=>?_,λd a c h=>?_,λd a c h=>?_⟩
    · rw[aj,hN];exact xq d sa sc l (hA.below o) (by omega)
    · have h3:=Ru d a c (gJ (l.map bn.p)) W h (λy hy=>by
        rw[aj]at hy;obtain⟨z,hz,rfl⟩:=List.mem_map.1 hy;exact hk z hz) Aa (by omega)
      rw[aF,ab]at h3;simp only at h3;have e:became (gJ (l.map bn.p)) W=Q:=by rw[Yn,dV,if_pos ac]
      rw[e]at h3;exact h3
    · rw[aC]at h ⊢;have h3:=LX d a c (gJ A0) (gJ B0) Q _ rfl (by rw[Yn];exact h) (by rw[Yn];exact t3) (by rw[Yn,<-aC];exact ar)
      rw[Yn]at h3 ⊢;rw[show(gJ A0).length=O by rw[gJ,bfz,aA]]at h3
      exact h3
  have YE:Hid (q.kind≠3->Q=W/\∀d,Bw w d->Calls prog 221 #[.slice sa n sc,.agg W.cells,.func (.func 222) #[] #[]] d (λe au=>∃b:Bool,e=.returned (.tuple #[.int .i64 (O:Int),.bool b])/\Z=(if b=true then 1 else 0)/\Bw d au)):=by
    refine Lh (λac=>⟨by rw[Yn,dV,if_neg ac],λd o=>?_⟩)
    have aj:gJ (l.map bn.p)=l.map λx=>x.p.w:=by rw[gJ,List.map_map];rfl
    rw[hN];refine(FP d sa sc l W (hA.below o) (by rw[<-aj];exact nP.2 (kE hp)) (by omega)).mono ?_
    rintro e au ⟨p,b,rfl,h1,h2,h3⟩;rw[<-aj]at h1 h2;obtain⟨_,k2,k3⟩:=LV ac hp al am an h1 h2;exact⟨b,by rw[k2,aA],by rw[<-Ug,k3],h3⟩
  clear hA hk hp hW Aa hn al ax am an hl ao Uz ay Yn az Ii aA Ug hN aX hP;obtain⟨VB,ad⟩:=Nm (Value.agg Q.cells);obtain⟨VW,YY⟩:=Nm (Value.agg W.cells);rw[<-ad]at HP Y0;rw[<-YY]at Y0 YE;obtain⟨kind,size,ak,aw,agg,kq⟩:=q;obtain⟨Wv,IW⟩:=Nm W;rw[<-IW]at H1 YE;obtain⟨I,J,L⟩:=W;have eF:Hid (VW=.agg #[Sv I,.int .i64 J,.int .i64 L]):=Lh YY;have oP:Hid (∀d,dH d wb Wv->D3 d wb I J L):=by rw[IW];exact Lh (λd h=>h.d3)
  have aY:Hid (Wv.cells=#[Sv I,.int .i64 J,.int .i64 L]):=by rw[IW];exact Lh rfl
  clear IW YY;unfold bu.cells bf.cells at aa ⊢;simp only at aa Y0 YE;have aG:(w.alloc (.cells #[.int .i64 kind,.int .i64 size,.int .i64 ak,.int .i64 aw,.int .i64 agg,.int .i64 kq] 23)).heap.size=w.heap.size+1:=bg w _;have aH:((w.alloc (.cells #[.int .i64 kind,.int .i64 size,.int .i64 ak,.int .i64 aw,.int .i64 agg,.int .i64 kq] 23)).alloc (.cells #[Sv I,.int .i64 J,.int .i64 L] 34)).heap.size=w.heap.size+2:=by rw[bg,bg]
  obtain⟨d0,d1,d2,d3,d4,d5⟩:=H1.out.1.d6;simp only at d0 d1 d2 d3 d4 d5;have OY:Hid (∀d,Bw F d->D3 d wb I J L):=Lh (λd h=>oP.out d (H1.out.2.1.below h));have YX:Hid (∀d,Bw F d->dH d R bF):=Lh (λd h=>H1.out.2.2.1.below h);have ae:=Lh H1.out.2.2.2.1;clear H1;by_cases S:kind=3
  · subst S;obtain⟨ws,ts,gv,aI,ar,aJ,aK,ap,aL,aM,aN⟩:=Y0.out rfl;have Es:=Lh aL;have IL:=Lh aM;have aO:=Lh aN;have HL:Hid (ws.length=n/\gv.length=Z/\(∀x∈ws,x.rightB=true)/\∀x∈ts,x.rightB=true):=Lh ⟨aI,aJ,aK,ap⟩;obtain⟨nt,aD⟩:=Nm (ts.length);rw[<-aD]at ar;have OC:=Lh aD;clear aL aM aN aI aJ aK ap YE aD;go_enter func185,ntmps185;go_upto_region 1 with fail;rw[<-aa,<-ag,<-af,<-XW];clear aa ag af XW aG aH;go_upto_region 2 with fail;clear d0 d1 d2 d3 d4 d5;have aZ:Hid (Bw F F.drew):=Lh (Below.refl _ F).drew;have Ir:∀d,Bw F d->∃b,Value.pointer (some ⟨d.heap.size,0,none⟩)=.pointer (some ⟨b,0,none⟩)/\F.heap.size<=b/\dH (d.alloc (.cells bF.cells 34)) b bF:=λd h=>⟨_,rfl,h.size,bg5 d _⟩;refine wp_region_skipA (λi=>([]:List Nat).contains i) (by kernel_rfl) (NoF [none,none,none,some 0,none,some 1,none]) [8,10] (PP ((Value.slice sa n sc)::undef::VW::undef::undef::undef::VB::([undef,undef,undef,undef,undef]:List Value)) (V8 F.heap.size ws ts Z Q)) (λ_ d=>Bw F d) (λw d=>Bw w d) (vK _ _ V9) (by kernel_rfl) (by kernel_rfl) (by kernel_rfl) aZ.out (λ_=>⟨rfl,rfl,rfl,rfl,rfl,rfl,rfl,rfl,rfl,rfl,rfl,rfl,trivial⟩) (λ_ h=>by simp at h) ?_ ?_
    · refine⟨?_,?_,?_,?_,?_,?_,?_,?_,?_,?_,?_,?_,trivial⟩
      · intro _ _ a d j E M K N;have q1:=Eo E 1 (.slice sa n sc);clear E M;go_step;exact N _ _ rfl j Br
      · intro _ _ a d j E M K N;obtain⟨U,_⟩:=M;have a6:=Ep a 19 (.slice sa n sc) U;clear E U;go_step;refine(Es.out d (Tb ae.out j)).mono ?_;rintro e w3 ⟨v,rfl,hO,o⟩;obtain⟨a',c',r,hc,hA⟩:=hO.form;exact N _ _ ⟨a',c',r,hc,hA⟩ (Tb j o) o
      · intro _ _ a d j E M K N;have q5:=Ea E 5 wb 0;obtain⟨e0,e1,e2⟩:=OY.out d j;clear E M;go_step;exact N _ _ eF.out.symm j Br
      · intro _ _ a d j E M K N;obtain⟨U,p1,_⟩:=M;obtain⟨a1,c1,r,aE,av⟩:=(show xY d (a.eval (.tmp 20)) ws from U);have a7:=Ep a 21 VW p1;clear E p1;rw[HL.out.1]at r;have a8:=ev_of r;have HS:=Lh (IL.out d a1 c1 av);clear av r aE;go_step;refine HS.out.mono ?_;rintro e w3 ⟨x,u,rfl,h1,h2,o⟩;obtain⟨a',c',hx,hc,hA⟩:=h1.form;obtain⟨a2,c2,hu⟩:=Own.form h2;rw[DI,bfz,HL.out.2.1]at hu;exact N _ _ ⟨x,u,rfl,⟨a',c',hx,hc,hA⟩,a2,c2,hu⟩ (Tb j o) o
      · intro _ _ a d j E M K N;obtain⟨U,_⟩:=M;obtain⟨x,u,r,hx,hu⟩:=(show ∃x u,a.eval (.tmp 22)=.tuple #[x,.agg Q.cells,u]/\xY d x ts/\Vh u Z from U);have ba:=ev_of r;clear E;clear r;go_step;exact N _ _ ⟨x,u,rfl,hx,hu⟩ j Br
      · intro _ _ a d j E M K N;obtain⟨U,_⟩:=M;obtain⟨x,u,r,hx,hu⟩:=(show ∃x u,a.eval (.tmp 18)=.tuple #[x,.agg Q.cells,u]/\xY d x ts/\Vh u Z from U);have aP:=ev_of r;clear E;clear r;go_step;exact N _ _ hx j Br
      · intro _ _ a d j E M K N;obtain⟨U,_⟩:=M;obtain⟨x,u,r,hx,hu⟩:=(show ∃x u,a.eval (.tmp 18)=.tuple #[x,.agg Q.cells,u]/\xY d x ts/\Vh u Z from U);have aP:=ev_of r;clear E;clear r;go_step;exact N _ _ ad.symm j Br
      · intro _ _ a d j E M K N;obtain⟨U,_⟩:=M;obtain⟨x,u,r,hx,hu⟩:=(show ∃x u,a.eval (.tmp 18)=.tuple #[x,.agg Q.cells,u]/\xY d x ts/\Vh u Z from U);have aP:=ev_of r;clear E;clear r;go_step;exact N _ _ hu j Br
      · intro _ a d j E M K N;clear E M;go_step;exact N _ _ (Ir d j) (j.trans (((Below.refl _ d).alloc (bfx _) _).mono j.size)) (jq _ (PK ((Below.refl _ d).alloc (bfx _) _)))
      · intro _ _ a d j E M K N;obtain⟨U,_⟩:=M;obtain⟨a1,c1,r,aE,av⟩:=(show xY d (a.eval (.tmp 23)) ts from U);have bb:=ev_of r;clear E;clear r;go_step;exact N _ _ ⟨a1,c1,rfl,aE,av⟩ j Br
      · intro _ a d j E M K N;obtain⟨U,p1,_⟩:=M;obtain⟨b,r,a0,D⟩:=(show ∃b,a.eval (.tmp 10)=.pointer (some ⟨b,0,none⟩)/\F.heap.size<=b/\dH d b (if 1<=1 then bF else Q)from U)
        have aQ:=(show a.eval (.tmp 24)=VB from p1);rw[if_pos (bfx 1)]at D;rw[ad]at aQ;refine Ff (.tmp 10) (.tmp 24) rfl b Q bF r aQ D ?_;have hg:=bD d b Q.cells;exact N _ _ rfl (j.trans ⟨hg.os,hg.tape,hg.output,hg.size,λk hk=>hg.block k (by have:=j.size;omega) (by simp;omega)⟩) (jq _ (RX HL.out.2.2.1 HL.out.2.2.2 rfl r D a0 hg (D.reset Q)))
      · intro _ _ a d j E M K N;obtain⟨U,_⟩:=M;obtain⟨a1,c1,r⟩:=(show Vh (a.eval (.tmp 25)) Z from U);have Zq:=ev_of r;clear E;clear r;go_step;exact N _ _ ⟨a1,c1,rfl⟩ j Br
    · intro vs Y j ab hV
      match vs,ab,hV with
      | [v0,v1,v2,v3,v4,v5,v6,v7,v8,v9,v10,v11],_,hV=>
        obtain⟨a9,c9,UL,a3,aR⟩:=(show xY Y v9 ts from hV 9 9 v9 rfl rfl);obtain⟨a11,bc,Yt⟩:=(show Vh v11 Z from hV 11 11 v11 rfl rfl);obtain⟨tb,a4,a5,D⟩:=(show ∃b,v8=.pointer (some ⟨b,0,none⟩)/\F.heap.size<=b/\dH Y b (if 2<=1 then bF else Q)from hV 8 10 v8 rfl rfl)
        rw[if_neg (by decide)]at D
        subst UL Yt a4;clear hV;rw[<-OC.out]at a3;have H2:Hid (fZ Y a9 ts/\dH Y tb Q/\Bw F Y):=Lh ⟨aR,D,j⟩;rw[<-OC.out];clear aR D j a5;simp only[putsL,bf7,bf1];simp only[Act.put,bfw,bfu,bfv];have AQ:Hid (Calls prog 220 #[.slice a9 nt c9,VB] Y (Below0 Y (.int .i64 (O:Int)))):=by
          have h:=aO.out Y a9 c9 H2.out.1;rw[<-OC.out]at h;exact Lh h
        clear aO IL Es;obtain⟨bk,bl,bh⟩:=Q;have aT:Hid (VB=.agg #[Sv bk,.int .i64 bl,.int .i64 bh]):=Lh ad;rw[aT.out]at AQ;obtain⟨f0,f1,f2⟩:=H2.out.2.1.d3;go_wp2_with fail;refine AQ.out.mono ?_;rintro e w3 ⟨rfl,o⟩;have H3:Hid (dH w3 tb ⟨bk,bl,bh⟩/\Bw F w3):=Lh ⟨H2.out.2.1.below o,H2.out.2.2.trans (o.mono H2.out.2.2.size)⟩;clear o f0 f1 f2;dsimp only;obtain⟨f0,f1,f2⟩:=H3.out.1.d3;go_upto_region 4 with fail;refine bg4 ?_
        iterate 18 go_step
        refine bg6 rfl _ _ _ rfl R #[Sv bk,.int .i64 bl,.int .i64 bh] rfl rfl 34 bF.cells (YX.out w3 H3.out.2) bz rfl (by exact bG ⟨bk,bl,bh⟩) ?_
        obtain⟨w9,m⟩:=Nm (w3.setRow R #[Sv bk,.int .i64 bl,.int .i64 bh]);have H9:Hid (dH w9 R ⟨bk,bl,bh⟩/\P (.returned (.tuple #[.agg #[Sv bk,.int .i64 bl,.int .i64 bh],.int .i64 (O:Int),.int .i64 ((O:Int)+(Z:Int))])) w9):=by
          have hg:w3.grownBy w9 (some R):=by rw[m];exact bD _ _ _
          have o:=ae.out.trans (H3.out.2.mono ae.out.size);have h:=HP.out w9 (o.trans (bQ hg aB.out.1 o.size));rw[aT.out]at h;exact Lh ⟨by rw[m];exact dH.reset (YX.out w3 H3.out.2) ⟨bk,bl,bh⟩,h⟩
        rw[<-m];clear m;have aU:=ah;go_wp2_with fail;exact bodyPost_ret (v:=.tuple #[.agg #[Sv bk,.int .i64 bl,.int .i64 bh],.int .i64 (O:Int),.int .i64 ((O:Int)+(Z:Int))]) ((dG (p:=6) (s:=7) (u:=8) (ty:=34) rfl _ _ R 34 #[Sv bk,.int .i64 bl,.int .i64 bh] (0,0) _ rfl H9.out.1 underlying34 rfl bz).trans rfl) rfl H9.out.2
  · have o8:(kind==3)=false:=by simpa using S
    obtain⟨aV,aW⟩:=YE.out S;have Iw:=Lh aW;have Ej:Hid (VB=.agg #[Sv I,.int .i64 J,.int .i64 L]):=by rw[ad,aV,aY.out];exact Lh rfl
    clear aV aW S Y0 ad;go_enter func185,ntmps185;go_upto_region 1 with fail;rw[<-aa,<-ag,<-af,<-XW];clear aa ag af XW aG aH;obtain⟨e0,e1,e2⟩:=OY.out F Br;have HC:Hid (Calls prog 221 #[.slice sa n sc,.agg #[Sv I,.int .i64 J,.int .i64 L],.func (.func 222) #[] #[]] F (λe au=>∃b:Bool,e=.returned (.tuple #[.int .i64 (O:Int),.bool b])/\Z=(if b=true then 1 else 0)/\Bw F au)):=by
      have h:=Iw.out F ae.out;rw[eF.out]at h;exact Lh h
    go_wp2_with fail;refine HC.out.mono ?_;rintro e Y ⟨b,rfl,hb,o⟩;have H2:=Lh o;clear o d0 d1 d2 d3 d4 d5 e0 e1 e2;dsimp only;obtain⟨e0,e1,e2⟩:=OY.out Y H2.out
    cases b with
    | true=>
      rw[if_pos rfl]at hb;subst hb;go_upto_region 7 with fail;refine bg4 ?_
      iterate 12 go_step
      refine bg6 rfl _ _ _ rfl R #[Sv I,.int .i64 J,.int .i64 L] rfl rfl 34 bF.cells (YX.out Y H2.out) bz rfl (by exact bG ⟨I,J,L⟩) ?_
      obtain⟨w9,m⟩:=Nm (Y.setRow R #[Sv I,.int .i64 J,.int .i64 L]);have H9:Hid (dH w9 R ⟨I,J,L⟩/\P (.returned (.tuple #[.agg #[Sv I,.int .i64 J,.int .i64 L],.int .i64 (O:Int),.int .i64 ((O:Int)+((1:Nat):Int))])) w9):=by
        have hg:Y.grownBy w9 (some R):=by rw[m];exact bD _ _ _
        have o:=Tb ae.out H2.out;have h:=HP.out w9 (o.trans (bQ hg aB.out.1 o.size));rw[Ej.out]at h;exact Lh ⟨by rw[m];exact dH.reset (YX.out Y H2.out) ⟨I,J,L⟩,h⟩
      rw[<-m];clear m;have aU:=ah;go_wp2_with fail;exact bodyPost_ret (v:=.tuple #[.agg #[Sv I,.int .i64 J,.int .i64 L],.int .i64 (O:Int),.int .i64 ((O:Int)+((1:Nat):Int))]) ((dG (p:=6) (s:=7) (u:=8) (ty:=34) rfl _ _ R 34 #[Sv I,.int .i64 J,.int .i64 L] (0,0) _ rfl H9.out.1 underlying34 rfl bz).trans rfl) rfl H9.out.2
    | false=>
      rw[if_neg (by simp)]at hb
      subst hb;go_upto_region 8 with fail;refine bg4 ?_
      iterate 9 go_step
      refine bg6 rfl _ _ _ rfl R #[Sv I,.int .i64 J,.int .i64 L] rfl rfl 34 bF.cells (YX.out Y H2.out) bz rfl (by exact bG ⟨I,J,L⟩) ?_
      obtain⟨w9,m⟩:=Nm (Y.setRow R #[Sv I,.int .i64 J,.int .i64 L]);have H9:Hid (dH w9 R ⟨I,J,L⟩/\P (.returned (.tuple #[.agg #[Sv I,.int .i64 J,.int .i64 L],.int .i64 (O:Int),.int .i64 ((O:Int)+((0:Nat):Int))])) w9):=by
        have hg:Y.grownBy w9 (some R):=by rw[m];exact bD _ _ _
        have o:=Tb ae.out H2.out;have h:=HP.out w9 (o.trans (bQ hg aB.out.1 o.size));rw[Ej.out]at h;exact Lh ⟨by rw[m];exact dH.reset (YX.out Y H2.out) ⟨I,J,L⟩,h⟩
      rw[<-m];clear m;have aU:=ah;go_wp2_with fail;exact bodyPost_ret (v:=.tuple #[.agg #[Sv I,.int .i64 J,.int .i64 L],.int .i64 (O:Int),.int .i64 ((O:Int)+((0:Nat):Int))]) ((dG (p:=6) (s:=7) (u:=8) (ty:=34) rfl _ _ R 34 #[Sv I,.int .i64 J,.int .i64 L] (0,0) _ rfl H9.out.1 underlying34 rfl bz).trans rfl) rfl H9.out.2
end Go.Proofs.YtgfmbkoieacgoaaGreatDoor
