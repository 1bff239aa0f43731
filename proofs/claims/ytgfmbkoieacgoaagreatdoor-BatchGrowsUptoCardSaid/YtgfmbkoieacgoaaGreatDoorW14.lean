/- 14. -/
import Derived.Test.YtgfmbkoieacgoaaGreatDoorW1
import Derived.Test.YtgfmbkoieacgoaaGreatDoorW8
import Derived.Test.YtgfmbkoieacgoaaGreatDoorW12
set_option maxRecDepth 100000
set_option maxHeartbeats 1000000
namespace Go.Proofs.YtgfmbkoieacgoaaGreatDoor
open Go Go.RowKit Go.Proofs.Tryz
def Xr(B0:Nat)(a b c:Int):StT (λw w'=>Bw w w'):=
 ⟨λw v=>∃g,v=.slice (some ⟨g,0,none⟩) 3 3/\B0<=g/\w.heap[g]? =some (.cells #[.int .i64 a,.int .i64 b,.int .i64 c] 3 (0,0)),λ_ _ _ h ⟨g,h1,h2,h3⟩=>⟨g,h1,h2,(h.block _ (Array.getElem?_eq_some_iff.1 h3).1).trans h3⟩⟩
theorem fZ.get {w:World} {a:Option Addr} {l:List bf}(h:fZ w a l) {t:Nat}(c:t<l.length):∃x b o,l[t]? =some x/\a=some ⟨b,o,none⟩/\w.cell? ⟨b,o+t*3,none⟩=some (Sv x.key)/\w.cell? ⟨b,o+t*3+1,none⟩=some (.int .i64 x.lo)/\
  w.cell? ⟨b,o+t*3+2,none⟩=some (.int .i64 x.hi):=by
 rcases h with h | ⟨b,o,h,d⟩
 ·rw[h]at c;simp at c
 exact⟨l[t],b,o,bfs c,h,d t _ (bfs c) 0 _ rfl,d t _ (bfs c) 1 _ rfl,d t _ (bfs c) 2 _ rfl⟩
theorem nO(w:World)(x y:bf):Calls prog 183 #[.agg x.cells,.agg y.cells] w (Below0 w (.int .i64 (jm x y))):=by
 obtain⟨r,hr⟩:=Nm (jm x y);rw[<-hr];obtain⟨N,O⟩:=Nm (w.alloc (.cells x.cells 34));obtain⟨l,p⟩:=Nm (w.heap.size);obtain⟨n,j⟩:=Nm (N.alloc (.cells y.cells 34));obtain⟨m,q⟩:=Nm (w.heap.size+1);have Y:N.heap.size=w.heap.size+1:=by rw[O];exact bg w _
 have En:Hid (Bw w n):=by
  have Z:=(Below.refl _ w).alloc (bfx _) (.cells x.cells 34);rw[<-O]at Z;rw[j];exact Lh (Z.alloc Z.size _)
 have s:Hid (∀b,Bw n b->D3 b l x.key x.lo x.hi/\D3 b m y.key y.lo y.hi):=by
  have Z:dH N l x:=by rw[O,p];exact bg5 w _
  have h2:dH n m y:=by rw[j,q,<-Y];exact bg5 N _
  have h3:Bw N n:=by rw[j];exact(Below.refl _ N).alloc (bfx _) _
  exact Lh (λb h=>⟨((Z.below h3).below h).d3,(h2.below h).d3⟩)
 have ad:Hid (Bw n n.drew):=(Below.refl _ n).drew;obtain⟨xk,xl,xh⟩:=x;obtain⟨yk,yl,yh⟩:=y;simp only at s;obtain⟨Q,u⟩:=Nm (vZ xk yk);obtain⟨R,z⟩:=Nm (mD xl yl);obtain⟨S,D⟩:=Nm (mD xh yh);have HR:Hid (r=lN Q R S):=by rw[hr,u,z,D];exact Lh rfl
 have E:Hid ((∀b,Calls prog 103 #[Sv xk,Sv yk] b λe F=>e=.returned (.int .i64 Q)/\F=b)/\(∀b,Calls prog 102 #[.int .i64 xl,.int .i64 yl] b λe F=>e=.returned (.int .i64 R)/\F=b)/\(∀b,Calls prog 102 #[.int .i64 xh,.int .i64 yh] b λe F=>e=.returned (.int .i64 S)/\F=b)):=by
  rw[u,z,D];exact Lh ⟨λb=>Jh b _ _,λb=>rH b _ _,λb=>rH b _ _⟩
 unfold bf.cells at O j ⊢;clear hr u z D;go_enter func183,ntmps183;go_upto_region 1 with fail;rw[<-O,<-j,<-q,<-p];clear O j p q Y;refine wp_region_seq_frame (by kernel_rfl) (NoF (NoF (NoF [none,none,none]))) [] (vOfT (stE (.pointer (some ⟨l,0,none⟩))::stE (Sv xk)::stE (.pointer (some ⟨m,0,none⟩))::stE (Sv yk)::stE (.int .i64 Q)::stE (.pointer (some ⟨l,1,none⟩))::stE (.int .i64 xl)::stE (.pointer (some ⟨m,1,none⟩))::stE (.int .i64 yl)::stE (.int .i64 R)::stE (.pointer (some ⟨l,2,none⟩))::stE (.int .i64 xh)::stE (.pointer (some ⟨m,2,none⟩))::stE (.int .i64 yh)::stE (.int .i64 S)::Xr n.heap.size Q R S::stE (.int .i64 r)::stE (.int .i64 r)::([]:List _))) (λ_ b=>Bw n b) (λw b=>Bw w b) (vOfT_st _) (by kernel_rfl) (by kernel_rfl) (by kernel_rfl) ad.out ⟨trivial,trivial,trivial,trivial,trivial,trivial,trivial,trivial,trivial,trivial,trivial,trivial,trivial,trivial,trivial,trivial,trivial,trivial,trivial⟩ ?_ ?_
 ·refine ⟨?_,?_,?_,?_,?_,?_,?_,?_,?_,?_,?_,?_,?_,?_,?_,?_,?_,?_,trivial⟩<;>intro k a b d o c K U<;>replace o:=Lh o<;>replace c:=Lh c
  have q2:=FaA o 2 l 0;rotate_left;have q5:=Pa a 5 l 0 c.out.1;obtain⟨d0,d1,d2⟩:=(s.out b d).1;rotate_left;have q3:=FaA o 3 m 0;rotate_left;have q7:=Pa a 7 m 0 c.out.1;obtain⟨d0,d1,d2⟩:=(s.out b d).2;rotate_left
  ·have q6:=Ep a 6 (Sv xk) c.out.1;have q8:=Ep a 8 (Sv yk) c.out.2.1;have I:=Lh (E.out.1 b);go_step;refine I.out.mono ?_;rintro e J ⟨rfl,L⟩;subst J;exact U _ _ rfl d Br
  have q2:=FaA o 2 l 0;rotate_left;have ae:=Pa a 10 l 1 c.out.1;obtain⟨d0,d1,d2⟩:=(s.out b d).1;rotate_left;have q3:=FaA o 3 m 0;rotate_left;have af:=Pa a 12 m 1 c.out.1;obtain⟨d0,d1,d2⟩:=(s.out b d).2;rotate_left
  ·have q11:=Pi a 11 xl c.out.1;have ag:=Pi a 13 yl c.out.2.1;have I:=Lh (E.out.2.1 b);go_step;refine I.out.mono ?_;rintro e J ⟨rfl,L⟩;subst J;exact U _ _ rfl d Br
  have q2:=FaA o 2 l 0;rotate_left;have ah:=Pa a 15 l 2 c.out.1;obtain⟨d0,d1,d2⟩:=(s.out b d).1;rotate_left;have q3:=FaA o 3 m 0;rotate_left;have ai:=Pa a 17 m 2 c.out.1;obtain⟨d0,d1,d2⟩:=(s.out b d).2;rotate_left
  ·have aj:=Pi a 16 xh c.out.1;have ak:=Pi a 18 yh c.out.2.1;have I:=Lh (E.out.2.2 b);go_step;refine I.out.mono ?_;rintro e J ⟨rfl,L⟩;subst J;exact U _ _ rfl d Br
  ·have q9:=Pi a 9 Q c.out.1;have al:=Pi a 14 R c.out.2.1;have am:=Pi a 19 S c.out.2.2.1;go_step;exact U _ _ ⟨b.heap.size,rfl,d.size,bg5 b _⟩ (d.alloc d.size _) ((Below.refl _ b).alloc (bfx _) _)
  ·obtain ⟨p0,_⟩:=c.out;obtain⟨gg,aa,_,ab⟩:=p0;have q0:=Ep a 20 (.slice (some ⟨gg,0,none⟩) 3 3) aa;have M:=Pj b gg Q R S ab;rw[<-HR.out]at M;have I:=Lh M;clear M ab aa;go_step;refine I.out.mono ?_;rintro e J ⟨rfl,L⟩;subst J;exact U _ _ rfl d Br
  have an:=Pi a 21 r c.out.1;rotate_left
  all_goals(go_step;exact U _ _ rfl d Br)
 intro vs F d ac hV
 match vs,ac,hV with
 | [v0,v1,v2,v3,v4,v5,v6,v7,v8,v9,v10,v11,v12,v13,v14,v15,v16,v17],_,hV=>
  obtain rfl:v17=.int .i64 r:=hV 17 4 v17 rfl rfl;clear hV;simp only[putsL,bf7,bf1];simp only[Act.put,bfw,bfu,bfv];have HZ:Hid (Bw w F):=Tb En.out d;clear d;go_wp2_with fail;go_ret;exact⟨rfl,HZ.out⟩
theorem yM(w:World)(t:Int):Calls prog 117 #[.int .i64 t] w (λe w'=>e=.returned (.bool (decide (0<=t/\t<=1099511627776)))/\w'=w):=by
 by_cases a:0<=t
 ·by_cases b:t<=1099511627776
  ·rw[bfr ⟨a,b⟩];go_enter func117,ntmps117;go_wp2_with fail;go_ret;exact⟨rfl,rfl⟩
  rw[bfq (λh=>b h.2)];have c:decide (t<=1099511627776)=false:=bfq b;go_enter func117,ntmps117;go_wp2_with fail;go_ret;exact⟨rfl,rfl⟩
 rw[bfq (λh=>a h.1)];have d:decide (0<=t)=false:=bfq a;go_enter func117,ntmps117;go_wp2_with fail;go_ret;exact⟨rfl,rfl⟩
theorem gQ(w:World)(x:bf)(q:x.key.length<=1000000):
  Calls prog 62 #[.agg x.cells] w (Below0 w (.bool x.rightB)):=by
 obtain⟨key,j,l⟩:=x;obtain⟨r,b⟩:=Nm ((bf.mk key j l).rightB);rw[<-b];have o:=λw=>ename_any w key q;obtain⟨u,k⟩:=Nm (nameB key);rw[<-k]at o;simp only[bf.rightB]at b;rw[<-k]at b;have c:=Lh o;obtain⟨s,a⟩:=Nm (decide (0<=j/\j<=1099511627776));have d:Hid (∀n,Calls prog 117 #[.int .i64 j] n (λe p=>e=.returned (.bool s)/\p=n)):=by
  rw[a];exact Lh (λn=>yM n j)
 clear k o q;unfold bf.cells
 cases u with
 | false=>
  obtain rfl:r=false:=by rw[b];rfl
  clear b a;go_enter func62,ntmps62;go_wp2_with fail;refine(c.out _).mono ?_;rintro e h ⟨rfl,rfl⟩;dsimp only;go_wp2_with fail;go_ret;exact⟨rfl,(Below.refl _ w).alloc (bfx _) _⟩
 | true=>
  rw[bgw]at b
  cases s with
  | false=>
   have m:=of_decide_eq_false a.symm;obtain rfl:r=false:=by rw[b,bfq (by omega)]
   clear b a m;go_enter func62,ntmps62;go_wp2_with fail;refine(c.out _).mono ?_;rintro e h ⟨rfl,rfl⟩;dsimp only;go_wp2_with fail;refine(d.out _).mono ?_;rintro e h ⟨rfl,rfl⟩;dsimp only;go_wp2_with fail;go_ret;exact⟨rfl,(Below.refl _ w).alloc (bfx _) _⟩
  | true=>
  have m:=bgh a.symm;by_cases y:j<l
  case neg=>
   obtain rfl:r=false:=by rw[b,bfq (by omega)]
   have d2:decide (j<l)=false:=bfq y;clear b a m;go_enter func62,ntmps62;go_wp2_with fail;refine(c.out _).mono ?_;rintro e h ⟨rfl,rfl⟩;dsimp only;go_wp2_with fail;refine(d.out _).mono ?_;rintro e h ⟨rfl,rfl⟩;dsimp only;go_wp2_with fail;go_ret;exact⟨rfl,(Below.refl _ w).alloc (bfx _) _⟩
  by_cases z:l<=4398046511104
  case neg=>
   obtain rfl:r=false:=by rw[b,bfq (by omega)]
   have d3:decide (l<=4398046511104)=false:=bfq z;clear b a m;go_enter func62,ntmps62;go_wp2_with fail;refine(c.out _).mono ?_;rintro e h ⟨rfl,rfl⟩;dsimp only;go_wp2_with fail;refine(d.out _).mono ?_;rintro e h ⟨rfl,rfl⟩;dsimp only;go_wp2_with fail;go_ret;exact⟨rfl,(Below.refl _ w).alloc (bfx _) _⟩
  obtain rfl:r=true:=by rw[b,bfr (by omega)]
  clear b a m;go_enter func62,ntmps62;go_wp2_with fail;refine(c.out _).mono ?_;rintro e h ⟨rfl,rfl⟩;dsimp only;go_wp2_with fail;refine(d.out _).mono ?_;rintro e h ⟨rfl,rfl⟩;dsimp only;go_wp2_with fail;go_ret;exact⟨rfl,(Below.refl _ w).alloc (bfx _) _⟩
theorem yK(w:World)(x:bf)(mark:Int)(D:x.key.length<=1000000):Calls prog 180 #[.agg x.cells,.int .i64 mark] w (Below0 w (.bool (kG x mark))):=by
 obtain⟨b,d⟩:=Nm (kG x mark);rw[<-d];obtain⟨u,a⟩:=Nm (w.alloc (.cells x.cells 34));obtain⟨E,c⟩:=Nm (w.heap.size);have y:Hid (Bw w u):=by rw[a];exact Lh ((Below.refl _ w).alloc (bfx _) _)
 have p:Hid (∀m,Bw u m->D3 m E x.key x.lo x.hi):=by
  have F:dH u E x:=by rw[a,c];exact bg5 w _
  exact Lh (λm h=>(F.below h).d3)
 obtain⟨r,z⟩:=Nm (x.rightB);have l:Hid (∀m,Calls prog 62 #[.agg x.cells] m (Below0 m (.bool r))):=by
  rw[z];exact Lh (λm=>gQ m x D)
 unfold kG at d;rw[<-z]at d;obtain⟨key,lo,hi⟩:=x;simp only at d;unfold bf.cells at a l ⊢;simp only at p;obtain⟨n,o,d2⟩:=p.out u Br;clear z D
 cases r with
 | false=>
  obtain rfl:b=false:=by rw[d];rfl
  clear d;go_enter func180,ntmps180;go_upto_region 1 with fail;rw[<-a,<-c];clear a c;go_wp2_with fail;refine(l.out _).mono ?_;rintro e q ⟨rfl,j⟩;have s:=Lh (Tb y.out j);have k:=Lh j;clear j n o d2;obtain⟨n,o,d2⟩:=p.out q k.out;dsimp only;go_wp2_with fail;go_ret;exact⟨rfl,s.out⟩
 | true=>
  rw[bgw]at d;by_cases I:hi<=mark
  case neg=>
   obtain rfl:b=false:=by rw[d,bfq (by omega)]
   have J:decide (hi<=mark)=false:=bfq I;clear d;go_enter func180,ntmps180;go_upto_region 1 with fail;rw[<-a,<-c];clear a c;go_wp2_with fail;refine(l.out _).mono ?_;rintro e q ⟨rfl,j⟩;have s:=Lh (Tb y.out j);have k:=Lh j;clear j n o d2;obtain⟨n,o,d2⟩:=p.out q k.out;dsimp only;go_wp2_with fail;go_ret;exact⟨rfl,s.out⟩
  obtain rfl:b=true:=by rw[d,bfr (by omega)]
  clear d;go_enter func180,ntmps180;go_upto_region 1 with fail;rw[<-a,<-c];clear a c;go_wp2_with fail;refine(l.out _).mono ?_;rintro e q ⟨rfl,j⟩;have s:=Lh (Tb y.out j);have k:=Lh j;clear j n o d2;obtain⟨n,o,d2⟩:=p.out q k.out;dsimp only;go_wp2_with fail;go_ret;exact⟨rfl,s.out⟩
theorem yJ(w:World)(q:bu)(x:bf)(mark:Int)(hl:x.key.length<=1000000):Calls prog 179 #[.agg q.cells,.agg x.cells,.int .i64 mark] w (Below0 w (.bool (kD q x mark))):=by
 obtain⟨b,n⟩:=Nm (kD q x mark);rw[<-n];obtain⟨N,a⟩:=Nm ((w.alloc (.cells q.cells 23)).alloc (.cells x.cells 34));obtain⟨Z,j⟩:=Nm (w.heap.size);obtain⟨xb,J⟩:=Nm (w.heap.size+1);have H1:Hid (Bw w N):=by
  have L:=(Below.refl _ w).alloc (bfx _) (.cells q.cells 23);rw[a];exact Lh (L.alloc L.size _)
 have o:Hid (∀l,Bw N l->D3 l xb x.key x.lo x.hi/\D6 l Z q.kind q.size q.slide q.late q.agg q.k):=by
  have L:dH N xb x:=by rw[a,J,<-bg w (.cells q.cells 23)];exact bg5 _ _
  have h2:dB N Z q:=by
   have h3:dB (w.alloc (.cells q.cells 23)) Z q:=by rw[j];exact bg5 w _
   rw[a];exact h3.below (Br.alloc (bfx _) _)
  exact Lh (λl h=>⟨(L.below h).d3,(h2.below h).d6⟩)
 obtain⟨r,S⟩:=Nm (x.rightB);obtain⟨s,U⟩:=Nm (q.rightB);have K:Hid (∀l,Calls prog 62 #[.agg x.cells] l (Below0 l (.bool r))):=by
  rw[S];exact Lh (λl=>gQ l x hl)
 have Y:Hid (∀l,Calls prog 91 #[.agg q.cells] l (Below0 l (.bool s))):=by
  rw[U];exact Lh (λl=>kS l q)
 have O:Hid (r=true->s=true->(0<=x.hi/\x.hi<=4398046511104)/\0<=q.late/\q.late<=1073741824):=by
  refine Lh (λL h2=>?_);have g1:=bU (x:=x) (by rw[<-S];exact L)
  have g2:=DT (q:=q) (by rw[<-U];exact h2)
  omega
 unfold kD at n;rw[<-S,<-U]at n;obtain⟨key,lo,hi⟩:=x;obtain⟨kind,size,slide,late,agg,tk⟩:=q;unfold bf.cells at a K ⊢;unfold bu.cells at a Y ⊢;simp only at o O n;obtain⟨⟨p,u,d2⟩,y,z,D,E,F,I⟩:=o.out N Br;clear S U hl
 cases s with
 | false=>
  obtain rfl:b=false:=by rw[n];rfl
  clear n;go_enter func179,ntmps179;go_upto_region 1 with fail;rw[<-a,<-J,<-j];clear a j J;go_wp2_with fail;refine(Y.out _).mono ?_;rintro e M ⟨rfl,c⟩;have Q:=Lh (Tb H1.out c);have d:=Lh c;clear c p u d2 y z D E F I;dsimp only;go_wp2_with fail;go_ret;exact⟨rfl,Q.out⟩
 | true=>
  cases r with
  | false=>
   obtain rfl:b=false:=by rw[n];rfl
   clear n;go_enter func179,ntmps179;go_upto_region 1 with fail;rw[<-a,<-J,<-j];clear a j J;go_wp2_with fail;refine(Y.out _).mono ?_;rintro e M ⟨rfl,c⟩;have Q:=Lh (Tb H1.out c);have d:=Lh c;clear c p u d2 y z D E F I;obtain⟨p,u,d2⟩:=(o.out M d.out).1;obtain⟨y,z,D,E,F,I⟩:=(o.out M d.out).2;dsimp only;go_wp2_with fail;refine(K.out _).mono ?_;rintro e R ⟨rfl,c⟩;have H3:=Lh (Tb Q.out c);have m:=Lh (Tb d.out c);clear c p u d2 y z D E F I;obtain⟨p,u,d2⟩:=(o.out R m.out).1;obtain⟨y,z,D,E,F,I⟩:=(o.out R m.out).2;dsimp only;go_wp2_with fail;go_ret;exact⟨rfl,H3.out⟩
  | true=>
   obtain⟨⟨g1,g2⟩,g3,g4⟩:=O.out rfl rfl;obtain rfl:b=decide (hi+late<=mark):=by rw[n];rfl
   clear n;go_enter func179,ntmps179;go_upto_region 1 with fail;rw[<-a,<-J,<-j];clear a j J;go_wp2_with fail;refine(Y.out _).mono ?_;rintro e M ⟨rfl,c⟩;have Q:=Lh (Tb H1.out c);have d:=Lh c;clear c p u d2 y z D E F I;obtain⟨p,u,d2⟩:=(o.out M d.out).1;obtain⟨y,z,D,E,F,I⟩:=(o.out M d.out).2;dsimp only;go_wp2_with fail;refine(K.out _).mono ?_;rintro e R ⟨rfl,c⟩;have H3:=Lh (Tb Q.out c);have m:=Lh (Tb d.out c);clear c p u d2 y z D E F I;obtain⟨p,u,d2⟩:=(o.out R m.out).1;obtain⟨y,z,D,E,F,I⟩:=(o.out R m.out).2;dsimp only;go_wp2_with fail;go_ret;exact⟨rfl,H3.out⟩
theorem mX(w:World)(x y:bf):
  Bw w ((w.alloc (.cells x.cells 34)).alloc (.cells y.cells 34))/\
  ∀w',Below ((w.alloc (.cells x.cells 34)).alloc (.cells y.cells 34)).heap.size ((w.alloc (.cells x.cells 34)).alloc (.cells y.cells 34)) w'->
   D3 w' w.heap.size x.key x.lo x.hi/\D3 w' (w.heap.size+1) y.key y.lo y.hi:=by
 have c:=bg w (.cells x.cells 34);have d:dH (w.alloc (.cells x.cells 34)) w.heap.size x:=bg5 w _;have a:=bg5 (w.alloc (.cells x.cells 34)) (.cells y.cells 34);rw[c]at a;have e:Bw w (w.alloc (.cells x.cells 34)):=(Below.refl _ w).alloc (bfx _) _;have b:Below (w.alloc (.cells x.cells 34)).heap.size (w.alloc (.cells x.cells 34)) ((w.alloc (.cells x.cells 34)).alloc (.cells y.cells 34)):=Br.alloc (bfx _) _;exact⟨Tb e b,λw' h=>⟨((d.below b).below h).d3,(dH.below (x:=y) a h).d3⟩⟩
def sO(l:List bf)(i:Nat):bf:=l.getD i bF
theorem fJ {l:List bf} {i:Nat} {x:bf}(h:l[i]? =some x):sO l i=x:=by
 rw[sO,List.getD_eq_getElem?_getD,h,Option.getD_some]
theorem sN(p:Addr):p.add 0=p:=rfl
theorem Gv(w:World)(a:Option Addr)(n c i:Nat)(h:i<=c):
  (Instr.slice 115 (.slice a n c) none (some (.int .i64 (i:Int))) none).run prog w=.ok (.slice a i c) w:=by
 have b:∀w,(sizeOf 34).run prog w=.ok 3 w:=sizeOf34;cases a <;> simp[Instr.slice,run_underlying underlying115,Instr.sliceBounds,run_sliceBound,b,h,sN]
theorem dQ.mono {w:World} {b a:Nat} {v:Value} {l:List bf}(h:dQ w b v l)(e:a<=b):dQ w a v l:=by
 refine⟨h.1,?_⟩;rcases h.2 with h | ⟨g,c,d,j,k,r⟩
 ·exact .inl h
 exact .inr ⟨g,c,d,j,bgn e k,r⟩
def qm(w:World)(l:List bf)(e:Ending)(w':World):Prop:=∃v,e=.returned v/\dQ w' w.heap.size v l/\Bw w w'
theorem dH.grown {w w':World} {b:Nat} {x:bf} {row:Option Nat}(h:dH w b x)(c:w.grownBy w' row)(a:some b≠row):dH w' b x:=(c.block b h.lt a).trans h
theorem dH.reset {w:World} {b:Nat} {x:bf}(h:dH w b x)(y:bf):dH (w.setRow b y.cells) b y:=setRow_heap w b _ _ _ _ h
theorem bD(w:World)(b:Nat)(c:Array Value):w.grownBy (w.setRow b c) (some b):=⟨rfl,rfl,rfl,by simp[World.setRow],λk _ a=>setRow_other _ _ _ _ (λe=>a (by rw[e]))⟩
def DI(l:List Nat):List Value:=l.map λ(n:Nat)=>Value.int .i64 (n:Int)
def zL(w:World)(base:Nat)(v:Value)(l:List Nat):Prop:=Own w base 3 v (DI l)
theorem Xj:(prog.info? 3).map (λi=>(i.zero,i.size,i.bytes))=some (some (.int .i64 0),1,8):=by kernel_rfl
theorem rows_apart {w:World} {B p:Nat} {v g:Value} {l:List bf} {n:List Nat}(h:dQ w B v l)(q:zL w p g n):g.ownBlock=none∨g.ownBlock≠v.ownBlock:=by
 rcases h.2 with⟨k,_⟩ | ⟨a,c,r,k,_,s,_⟩ <;> rcases q.2 with⟨j,_⟩ | ⟨b,d,o,j,_,m,_⟩
 ·exact .inl (by rw[j];rfl)
 ·right
  rw[k,j];simp[Value.ownBlock]
 ·exact .inl (by rw[j];rfl)
 right
 rw[k,j];intro e;simp only[Value.ownBlock,bf5]at e;rw[e,s]at m;simp only[bf5,Obj.cells.injEq]at m;exact absurd m.2.1 (by decide)
theorem JY {w:World} {B a:Nat} {v g:Value} {l:List bf} {n:List Nat}(h:dQ w B v l)(b:zL w a g n):v.ownBlock=none∨v.ownBlock≠g.ownBlock:=by
 cases hv:v.ownBlock with
 | none=>exact .inl rfl
 | some k=>
  right
  rcases rows_apart h b with e | e
  ·rw[e];simp
  rw[<-hv];exact λx=>e x.symm
theorem zI {a:Nat} {w:World} {v:Value}(c:∀k,v.ownBlock=some k->a<=k/\k<w.heap.size) {b:Nat}(d:b<a):some b≠v.ownBlock:=λe=>by
 have:=c b e.symm;omega
def V4(Vs:List Value)(i1:Nat)(A1:Nat->World->Value->Prop)(i2:Nat)(A2:Nat->World->Value->Prop)(i3:Nat)(A3:Nat->World->Value->Prop)(i4:Nat)(A4:Nat->World->Value->Prop)(i k:Nat)(w:World)(v:Value):Prop:=
 cond (Nat.beq i i1) (A1 k w v) (cond (Nat.beq i i2) (A2 k w v) (cond (Nat.beq i i3) (A3 k w v) (cond (Nat.beq i i4) (A4 k w v) (v=Vs.getD i undef))))
theorem wP {n:List Value} {h j l m:Nat} {a b c d:Nat->World->Value->Prop}(le:World->World->Prop)(o:∀k w w' v,le w w'->a k w v->a k w' v)(p:∀k w w' v,le w w'->b k w v->b k w' v)
  (q:∀k w w' v,le w w'->c k w v->c k w' v) (r:∀k w w' v,le w w'->d k w v->d k w' v):∀i k w w' v,le w w'->V4 n h a j b l c m d i k w v->V4 n h a j b l c m d i k w' v:=by
 intro i k w w' v e;unfold V4;cases Nat.beq i h
 ·cases Nat.beq i j
  ·cases Nat.beq i l
   ·cases Nat.beq i m
    ·exact id
    exact r _ _ _ _ e
   exact q _ _ _ _ e
  exact p _ _ _ _ e
 exact o _ _ _ _ e
theorem jE {p:List Value} {b c d e:Nat} {l m n o:Nat->World->Value->Prop} {i k a:Nat} {w w':World}(r:i=b∨∀u,l k w u->l a w' u)(s:i=c∨∀u,m k w u->m a w' u)
  (x:i=d∨∀u,n k w u->n a w' u) (y:i=e∨∀u,o k w u->o a w' u):∀j u,j≠i->V4 p b l c m d n e o j k w u->V4 p b l c m d n e o j a w' u:=by
 intro j u z;have key:∀(q:Nat) (A:Nat->World->Value->Prop),(i=q∨∀u,A k w u->A a w' u)->Nat.beq j q=true->A k w u->A a w' u:=λq A h D E=>by
  rcases h with h | h
  ·exact absurd ((Nat.eq_of_beq_eq_true D).trans h.symm) z
  exact h u E
 unfold V4;cases e1:Nat.beq j b
 ·cases e2:Nat.beq j c
  ·cases e3:Nat.beq j d
   ·cases e4:Nat.beq j e
    ·exact id
    exact key e o y e4
   exact key d n x e3
  exact key c m s e2
 exact key b l r e1
theorem dH.fro {w:World} {b:Nat} {x:bf}(h:dH w b x)(i:Nat):w.frozen? ⟨b,i,none⟩=false:=by
 unfold dH at h;simp[World.frozen?,h]
theorem Ky {o:Oper} {a:Act} {w:World} {K:Act->World->Prop} {Q:Exit->Act->World->Prop}(y:Operand)(d:o.op=.buildSlice 115 1 #[(0,y)])(x:bf)(e:a.eval y=.agg x.cells)
  (h:K (a.put o.dst (.slice (some ⟨w.heap.size,0,none⟩) 1 1)) (w.alloc (.cells x.cells 34))):o.wp prog a w K Q:=by
 have j:Instr.fill (λi=>some (i*3,3)) ((Array.range (1*3)).map ((Value.agg #[.string ⟨#[]⟩,.int .i64 0,.int .i64 0]).cells[· % (Value.agg #[.string ⟨#[]⟩,.int .i64 0,.int .i64 0]).cells.size]!)) [(0,.agg x.cells)]=some x.cells:=by kernel_rfl
 obtain⟨i,k,c,b,l⟩:=info_parts mP;refine wp_buildSlice 115 34 1 _ d x.cells i _ underlying115 k c (by rw[b];decide) (by rw[b];decide) ?_ h
 rw[b];simp only[bgb,bgc,bge,e];exact j
theorem Ff {o:Oper} {a:Act} {w:World} {K:Act->World->Prop} {Q:Exit->Act->World->Prop}(x y:Operand)(b:o.op=.store 34 x y)(g:Nat)(u old:bf)
  (c:a.eval x=.pointer (some ⟨g,0,none⟩)) (d:a.eval y=.agg u.cells) (e:dH w g old) (h:K (a.put o.dst undef) (w.setRow g u.cells)):o.wp prog a w K Q:=
 wp_store_row _ x y b g u.cells c d _ old.cells e bz rfl (bG u) h
theorem jR {P:Program} {e:Func} {s p u:Tmp} {ty:TypeId}(h:e.results=#[.tmp s,.cell p ty,.tmp u])(a:Array Value)(w:World)(g:Nat)(t:TypeId)(b:Array Value)(j:Nat × Nat)(d:TypeDesc)
  (k:a.getD p undef=.pointer (some ⟨g,0,none⟩)) (l:w.heap[g]? =some (.cells b t j))
  (m:P.underlying ty=some d) (n:(match d with | .struct _ | .array _ _=>true | _=>false)=true) (o:(P.info? ty).map (·.size)=some b.size):
  (results e a).run P w=.ok (.tuple #[a.getD s undef,.agg b,a.getD u undef]) w:=by
 have c:a[p]?.getD undef=.pointer (some ⟨g,0,none⟩):=by simpa using k
 simp[results,h,c,asAddr,run_loadVar_row w g t ty b j d l m n o]
def qX(a b:bf):Bool:=decide (a.key=b.key/\a.lo<=b.hi/\b.lo<=a.hi)
theorem Jz(a b:bf):dP a b=(a.rightB && b.rightB && qX a b):=rfl
def apartB(a b:bf):Bool:=decide (jm a b<0) && !qX a b
def qP(a b:bf):bf:=⟨a.key,min a.lo b.lo,max a.hi b.hi⟩
theorem DY(w:World)(x y:bf):
  Calls prog 249 #[.agg x.cells,.agg y.cells] w (Below0 w (.bool (qX x y))):=by
 obtain⟨r,j⟩:=Nm (qX x y);rw[<-j];obtain⟨u,a⟩:=Nm ((w.alloc (.cells x.cells 34)).alloc (.cells y.cells 34));obtain⟨L,b⟩:=Nm (w.heap.size);obtain⟨M,c⟩:=Nm (w.heap.size+1);have l:Hid (Bw w u):=by rw[a];exact Lh (mX w x y).1
 have F:Hid (∀z,Bw u z->D3 z L x.key x.lo x.hi/\D3 z M y.key y.lo y.hi):=by
  rw[a,b,c];exact Lh (mX w x y).2
 unfold qX at j;obtain⟨k,m,n⟩:=x;obtain⟨o,D,E⟩:=y;unfold bf.cells at a ⊢;simp only at F j;have N:(w.alloc (.cells #[Sv k,.int .i64 m,.int .i64 n] 34)).heap.size=w.heap.size+1:=bg w _;obtain⟨⟨c0,c1,c2⟩,O,Q,d2⟩:=F.out u Br;obtain⟨I,e⟩:=Nm (decide (k=o));have J:∀w,(binOp .eql 9 (Sv k) (Sv o)).run prog w=.ok (.bool I) w:=λw=>by rw[e];exact run_eql_Sv w k o
 have p:=Lh (bfy j e);clear j e
 cases I with
 | false=>
  obtain rfl:r=false:=by
   rw[p.out.1];refine bfq λh=>?_;have:=of_decide_eq_false p.out.2.symm;exact this h.1
  go_enter func249,ntmps249;go_upto_region 1 with fail;rw[<-a,<-c,<-b];clear a b c;go_wp2_with fail;go_ret;exact⟨rfl,l.out⟩
 | true=>
  have K:k=o:=bgh p.out.2.symm;have d:r=decide (m<=E/\D<=n):=by
   rw[p.out.1];exact decide_eq_decide.2 ⟨λh=>h.2,λh=>⟨K,h⟩⟩
  clear K;by_cases q:m<=E
  ·by_cases s:D<=n
   ·obtain rfl:r=true:=by rw[d];exact bfr ⟨q,s⟩
    clear d;go_enter func249,ntmps249;go_upto_region 1 with fail;rw[<-a,<-c,<-b];clear a b c;go_wp2_with fail;go_ret;exact⟨rfl,l.out⟩
   have R:decide (D<=n)=false:=bfq s;obtain rfl:r=false:=by rw[d];exact bfq (λh=>s h.2)
   clear d s;go_enter func249,ntmps249;go_upto_region 1 with fail;rw[<-a,<-c,<-b];clear a b c;go_wp2_with fail;go_ret;exact⟨rfl,l.out⟩
  have S:decide (m<=E)=false:=bfq q;obtain rfl:r=false:=by rw[d];exact bfq (λh=>q h.1)
  clear d q;go_enter func249,ntmps249;go_upto_region 1 with fail;rw[<-a,<-c,<-b];clear a b c;go_wp2_with fail;go_ret;exact⟨rfl,l.out⟩
theorem Nk(w:World)(x y:bf):
  Calls prog 217 #[.agg x.cells,.agg y.cells] w (Below0 w (.bool (apartB x y))):=by
 obtain⟨r,k⟩:=Nm (apartB x y);rw[<-k];obtain⟨l,a⟩:=Nm ((w.alloc (.cells x.cells 34)).alloc (.cells y.cells 34));obtain⟨K,c⟩:=Nm (w.heap.size);obtain⟨L,d⟩:=Nm (w.heap.size+1);have s:Hid (Bw w l):=by rw[a];exact Lh (mX w x y).1
 have u:Hid (∀b,Bw l b->D3 b K x.key x.lo x.hi/\D3 b L y.key y.lo y.hi):=by
  rw[a,c,d];exact Lh (mX w x y).2
 obtain⟨p,z⟩:=Nm (jm x y);obtain⟨m,D⟩:=Nm (qX x y);have E:Hid (∀b,Calls prog 183 #[.agg x.cells,.agg y.cells] b (Below0 b (.int .i64 p))):=by
  rw[z];exact Lh (λb=>nO b x y)
 have J:Hid (∀b,Calls prog 249 #[.agg x.cells,.agg y.cells] b (Below0 b (.bool m))):=by
  rw[D];exact Lh (λb=>DY b x y)
 unfold apartB at k;rw[<-z,<-D]at k;clear z D;obtain⟨M,N,O⟩:=x;obtain⟨S,U,Y⟩:=y;unfold bf.cells at a E J ⊢;simp only at u;have Q:(w.alloc (.cells #[Sv M,.int .i64 N,.int .i64 O] 34)).heap.size=w.heap.size+1:=bg w _;obtain⟨⟨c0,c1,c2⟩,n,o,d2⟩:=u.out l Br;by_cases h:p<0
 ·obtain rfl:r=!m:=by rw[k,bfr h];rfl
  clear k;go_enter func217,ntmps217;go_upto_region 1 with fail;rw[<-a,<-d,<-c];clear a c d;go_wp2_with fail;refine(E.out l).mono ?_;rintro e F ⟨rfl,j⟩;have q:=Lh j;clear j c0 c1 c2 n o d2;obtain⟨⟨c0,c1,c2⟩,n,o,d2⟩:=u.out F q.out;dsimp only;go_wp2_with fail;refine(J.out F).mono ?_;rintro e Z ⟨rfl,j⟩;have I:=Lh (s.out.trans ((Tb q.out j).mono s.out.size));clear j c0 c1 c2 n o d2;dsimp only;go_wp2_with fail;go_ret;exact⟨rfl,I.out⟩
 have R:decide (p<0)=false:=bfq h;obtain rfl:r=false:=by rw[k,R];rfl
 clear k h;go_enter func217,ntmps217;go_upto_region 1 with fail;rw[<-a,<-d,<-c];clear a c d;go_wp2_with fail;refine(E.out l).mono ?_;rintro e F ⟨rfl,j⟩;have q:=Lh (Tb s.out j);clear j c0 c1 c2 n o d2;dsimp only;go_wp2_with fail;go_ret;exact⟨rfl,q.out⟩
theorem RD(a b:bf):(qP a b).lo=if b.lo<a.lo then b.lo else a.lo:=by
 simp only[qP]
 split <;> omega
theorem Rz(a b:bf):(qP a b).hi=if a.hi<b.hi then b.hi else a.hi:=by
 simp only[qP]
 split <;> omega
theorem Nu(w:World)(x y:bf):
  Calls prog 250 #[.agg x.cells,.agg y.cells] w (Below0 w (.agg (qP x y).cells)):=by
 obtain⟨r,s⟩:=Nm (qP x y);have I:r.lo=if y.lo<x.lo then y.lo else x.lo:=by rw[s,RD]
 have J:r.hi=if x.hi<y.hi then y.hi else x.hi:=by rw[s,Rz]
 have N:r.key=x.key:=by rw[s];rfl
 rw[<-s];clear s;obtain⟨h,a⟩:=Nm ((w.alloc (.cells x.cells 34)).alloc (.cells y.cells 34));obtain⟨S,l⟩:=Nm (w.heap.size);obtain⟨U,m⟩:=Nm (w.heap.size+1);have Y:Hid (Bw w h):=by rw[a];exact Lh (mX w x y).1
 have O:Hid (∀K,Bw h K->D3 K S x.key x.lo x.hi/\D3 K U y.key y.lo y.hi):=by
  rw[a,l,m];exact Lh (mX w x y).2
 obtain⟨j,n⟩:=Nm (h.alloc (.cells #[.string ⟨#[]⟩,.int .i64 0,.int .i64 0] 34));obtain⟨c,o⟩:=Nm (w.heap.size+1+1);have q:h.heap.size=w.heap.size+1+1:=by rw[a,bg,bg]
 have L:Hid (dH j c bF/\Bw h j/\w.heap.size<=c/\h.heap.size<=c):=by
  rw[n,o,<-q];exact Lh ⟨bg5 h _,(Below.refl _ h).alloc (bfx _) _,by omega,bfx _⟩
 obtain⟨xk,u,z⟩:=x;obtain⟨Z,E,F⟩:=y;obtain⟨b,d,e⟩:=r;simp only at O N I J;subst N;have Q:=Lh (bfy I J);have M:Hid (dH (j.setRow c (bf.mk b d e).cells) c ⟨b,d,e⟩/\Bw w (j.setRow c (bf.mk b d e).cells)):=by
  obtain⟨k1,k2,k3,k4⟩:=L.out;have hz:Below w.heap.size j (j.setRow c (bf.mk b d e).cells):=⟨rfl,rfl,rfl,by simp[World.setRow],λk hk=>setRow_other _ _ _ _ (by omega)⟩
  exact Lh ⟨setRow_heap _ _ _ _ _ _ k1,(Tb Y.out k2).trans hz⟩
 unfold bf.cells at a ⊢;have aa:(w.alloc (.cells #[Sv b,.int .i64 u,.int .i64 z] 34)).heap.size=w.heap.size+1:=bg w _;obtain⟨⟨c0,c1,c2⟩,d0,d1,d2⟩:=O.out j L.out.2.1;clear I J;have R:((w.alloc (.cells #[Sv b,.int .i64 u,.int .i64 z] 34)).alloc (.cells #[Sv Z,.int .i64 E,.int .i64 F] 34)).heap.size=w.heap.size+1+1:=by rw[<-a];exact q
 clear q;go_enter func250,ntmps250;go_upto_region 1 with fail;rw[<-a,<-n,<-o,<-m,<-l];clear a n o l m;refine bg4 ?_
 iterate 36 go_step
 try rw[show min u E=(if E<u then E else u)from by rw[Int.min_def];split <;> split <;> omega,show max z F=(if z<F then F else z)from by rw[Int.max_def];split <;> split <;> omega]
 rw[<-Q.out.1,<-Q.out.2];refine bV (by kernel_rfl) 34 _ rfl (bf.mk b d e).cells (by simp only[bgb,bgc,bge];exact l9 b d e) ?_
 refine bg6 rfl _ _ _ rfl c (bf.mk b d e).cells rfl rfl 34 bF.cells L.out.1 bz rfl (bG _) ?_;obtain⟨w3,D⟩:=Nm (j.setRow c (bf.mk b d e).cells);rw[<-D]at M ⊢;clear D c0 c1 c2 d0 d1 d2;go_wp2_with fail;exact bodyPost_ret (v:=.agg #[Sv b,.int .i64 d,.int .i64 e]) (results_cell_row (p:=4) (ty:=34) rfl _ _ c 34 #[Sv b,.int .i64 d,.int .i64 e] (0,0) _ rfl M.out.1 underlying34 rfl bz) rfl ⟨rfl,M.out.2⟩
theorem qA(x:bf)(l:List bf):cO (x::l)=Sv x.key::.int .i64 x.lo::.int .i64 x.hi::cO l:=rfl
theorem yT:∀(l:List bf) (i:Nat) (x:bf),i<l.length->(cO l).take (i*3)++x.cells.toList++(cO l).drop (i*3+3)=cO (l.set i x)
 | [],_,_,h=>by simp at h
 | y::l,0,x,_=>by
  rw[qA];rfl
 | y::l,i+1,x,h=>by
  have a:=yT l i x (by simpa using h)
  rw[qA,show(i+1)*3=i*3+1+1+1 by omega,bfu,qA,<-a]
  simp
theorem VM {o:Oper} {a:Act} {w:World} {K:Act->World->Prop} {Q:Exit->Act->World->Prop}(x y:Operand)(F:o.op=.store 34 x y) {d g c n i:Nat} {l:List bf}(u:bf)
  (j:dQ w d (.slice (some ⟨g,0,none⟩) n c) l) (I:n=l.length) (J:i<n) (L:a.eval x=.pointer (some ⟨g,i*3,none⟩)) (M:a.eval y=.agg u.cells)
  (h:∀w',dQ w' d (.slice (some ⟨g,0,none⟩) n c) (l.set i u)->w.grownBy w' (some g)->K (a.put o.dst undef) w'):o.wp prog a w K Q:=by
 subst I;rcases j.2 with⟨q,_⟩ | ⟨Y,D,b,q,N,E,r,s,O,e⟩
 ·simp at q
 simp only[Value.slice.injEq,bf5,Addr.mk.injEq,and_true,true_and]at q;obtain⟨rfl,rfl⟩:=q;have k:i*3+u.cells.toList.length<=b.size:=by
  have:u.cells.toList.length=3:=rfl;omega
 have z:=run_storeCells_at prog g (i*3) 34 u.cells.toList 0 b w E (by simpa using k) (λv R=>Array.all_eq_true'.1 (bG u) v (by simpa using R))
 have m:(storeVar 34 ⟨g,i*3,none⟩ (.agg u.cells)).run prog w=.ok () (w.setRow g (b.toList.take (i*3)++u.cells.toList++b.toList.drop (i*3+u.cells.toList.length)).toArray):=by
  have S:∀w,(sizeOf 34).run prog w=.ok 3 w:=sizeOf34;have p:u.cells.size=3:=rfl;simpa[storeVar,S,Value.cells,p]using z
 unfold Oper.wp execOp;simp only[F,L,M,Instr.storeAt,Instr.sureAddr,Sem.run_bind,Sem.run_pure,Result.andThen_ok,m];refine h _ ⟨?_,.inr ⟨g,c,_,by rw[List.length_set],N,setRow_heap w g _ _ _ _ E,by rw[List.length_set];exact r,s,?_,?_⟩⟩ (bD _ _ _)
 ·rw[dX]
 ·have p:u.cells.size=3:=rfl;simp only[List.size_toArray,bft,bga,bgx,bgq];omega
 have p:u.cells.toList.length=3:=rfl;have Z:(cO l).length=l.length*3:=dX l;rw[List.length_set,<-yT l i u J,p,List.take_append];have U:(b.toList.take (i*3)++u.cells.toList).length=i*3+3:=by
  rw[bft,bga,p,bgq];omega
 rw[U,List.take_of_length_le (by omega),<-e,List.take_take,Nat.min_eq_left (by omega),List.drop_take]
theorem RJ {P:Program} {o:Oper} {a:Act} {w:World} {K:Act->World->Prop} {Q:Exit->Act->World->Prop} {ty:TypeId}(x y:Operand)(b:o.op=.store ty x y)
  (A:Addr) (v u:Value) (c:a.eval x=.pointer (some A)) (d:a.eval y=v) (e:v.cells=#[v]) (j:v.oneCell'=true) (k:∀w,(sizeOf ty).run P w=.ok 1 w)
  (l:w.cell? A=some u) (m:w.frozen? A=false) (h:K (a.put o.dst undef) (w.setCell A v)):o.wp P a w K Q:=by
 unfold Oper.wp execOp;simp only[b,c,d,Sem.run_bind,Sem.run_pure,Result.andThen_ok,run_storeAt_one e j k l m];exact h
open Go Go.RowKit
def kP(l:List bf)(x:bf)(j:Nat):bf:=(l.take j).foldl (jF x) x
def gW(l:List bf)(x:bf)(j:Nat):List bf:=(l.take j).filter λo=> !dP o x
def jh(l:List bf)(x:bf)(j:Nat):List Nat:=(List.range j).filter λi=>dP (l.getD i bF) x
theorem yZ {l:List bf} {x o:bf} {j:Nat}(h:l[j]? =some o):kP l x (j+1)=jF x (kP l x j) o:=by
 rw[kP,List.take_add_one,h,List.foldl_append];rfl
theorem zi {l:List bf} {x o:bf} {j:Nat}(h:l[j]? =some o):gW l x (j+1)=gW l x j++(if dP o x=true then []else [o]):=by
 rw[gW,List.take_add_one,h,List.filter_append]
 congr 1
 cases hj:dP o x <;> simp[hj]
theorem yY {l:List bf} {x o:bf} {j:Nat}(h:l[j]? =some o):jh l x (j+1)=jh l x j++(if dP o x=true then [j]else []):=by
 rw[jh,List.range_succ,List.filter_append]
 congr 1
 have:l.getD j bF=o:=fJ h;cases hj:dP o x <;> simp only[List.filter_cons,List.filter_nil,this,hj] <;> rfl
theorem QY(l:List bf)(x:bf)(j:Nat):(gW l x j).length<=j:=bgn (List.length_filter_le _ _) (by simp;omega)
theorem Qu(l:List bf)(x:bf)(j:Nat):(jh l x j).length<=j:=bgn (List.length_filter_le _ _) (by simp)
theorem LW(l:List bf)(x:bf):kP l x l.length=became l x:=by rw[kP,bgs];rfl
theorem BP(l:List bf)(x:bf):gW l x l.length=kF l x:=by rw[gW,bgs];rfl
theorem LU(l:List bf)(x:bf):jh l x l.length=vg l x:=rfl
def FH(w:World)(l:List bf)(x:bf)(g:List Nat)(e:Ending)(w':World):Prop:=
 ∃v u,e=.returned (.tuple #[v,.agg x.cells,u])/\dQ w' w.heap.size v l/\zL w' w.heap.size u g/\Bw w w'
end Go.Proofs.YtgfmbkoieacgoaaGreatDoor
set_option maxRecDepth 100000
set_option maxHeartbeats 2000000
namespace Go.Proofs.YtgfmbkoieacgoaaGreatDoor
open Go Go.RowKit Go.Proofs.Tryz
def jf(q:bu)(t:Int):Int:=if q.kind=3 then t else Gg q t*dI q
theorem LP {q:bu} {t:Int}(c:q.rightB=true)(d:0<=t)(b:q.kind=1):jf q t=t-t % q.size:=by
 have a:dI q=q.size:=by rw[dI,if_neg (by rw[b];decide)]
 obtain⟨n,o,p,r,s⟩:=gX c;have l:=rU c d;have m:=λk b=>rV c (t:=t) k b;rw[a]at l;have j:t / q.size*q.size=t-t % q.size:=by
  have:=Int.mul_ediv_add_emod t q.size;rw[Int.mul_comm];omega
 have e:Gg q t=t / q.size:=by
  by_cases u:t / q.size-1<0
  ·omega
  have h:=not_congr (m (t / q.size-1) (by omega))
  rw[a,Int.sub_mul,Int.one_mul,j]at h;have x:=Int.emod_nonneg t (show q.size≠0 by omega)
  have:=h.1 (by omega)
  omega
 rw[jf,if_neg (by rw[b];decide),a,e,j]
theorem LQ {q:bu} {t:Int}(c:q.rightB=true)(b:q.kind=2):jf q t=(max (t-q.size+1) 0+q.slide-1) / q.slide*q.slide:=by
 have a:dI q=q.slide:=by rw[dI,if_pos b]
 obtain⟨d,e,j,k,l⟩:=gX c;rw[a]at d;rw[jf,if_neg (by rw[b];decide),a,Gg,a]
 congr 1
 by_cases h:t<q.size
 ·rw[if_pos h,show max (t-q.size+1) 0=0 by omega,Int.zero_add,Int.ediv_eq_zero_of_lt (by omega) (by omega)]
 rw[if_neg h,show max (t-q.size+1) 0+q.slide-1=t-q.size+1*q.slide by omega,Int.add_mul_ediv_right _ _ (by omega)]
theorem yx {q:bu} {t:Int}(b:q.rightB=true)(a:0<=t):0<=jf q t/\jf q t<=t:=by
 obtain⟨e,h,j,k,l⟩:=gX b;obtain⟨c,d,m⟩:=rU b a;unfold jf
 split
 ·omega
 have n:=Int.mul_nonneg c (show 0<=dI q by omega)
 have o:Gg q t*dI q<=t / dI q*dI q:=Int.mul_le_mul_of_nonneg_right d (by omega)
 have p:t / dI q*dI q<=t:=Int.ediv_mul_le _ (by omega)
 omega
theorem zq(w:World)(q:bu)(t:Int)(u:q.rightB=true)(h0:0<=t)(h1:t<=1099511627776):
  Calls prog 218 #[.agg q.cells,.int .i64 t] w (Below0 w (.tuple #[.int .i64 (jf q t),.int .i64 (dI q)])):=by
 obtain⟨z,l⟩:=Nm (w.alloc (.cells q.cells 23));obtain⟨e,M⟩:=Nm (w.heap.size);have N:Hid (Bw w z/\dB z e q):=by
  rw[l,M];exact Lh ⟨(Below.refl _ w).alloc (bfx _) _,bg5 w _⟩
 have E:Hid (∀m,Bw z m->D6 m e q.kind q.size q.slide q.late q.agg q.k):=Lh (λm h=>(N.out.2.below h).d6);have O:Hid (Bw z z.drew):=(Below.refl _ z).drew;obtain⟨s1,Y,s3,s4,s5⟩:=gX u;obtain⟨Z,b2⟩:=yx u h0;obtain⟨c1,_,c3,c4,_⟩:=kX u;have e1:=λI=>LP u h0 I;have e2:=λI=>LQ (t:=t) u I;have e3:q.kind=3->jf q t=t:=λI=>by rw[jf,if_pos I]
 have J:dI q=if q.kind=2 then q.slide else q.size:=rfl
 obtain⟨F,x⟩:=Nm (jf q t);obtain⟨S,hS⟩:=Nm (dI q);rw[<-x]at Z b2 e1 e2 e3 ⊢;rw[<-hS]at s1 Y s3 J ⊢;clear x hS u c1;obtain⟨kind,size,n,late,agg,tk⟩:=q;unfold bu.cells at l ⊢;simp only at l E Y s3 s4 s5 c3 c4 e1 e2 e3 J ⊢;obtain⟨d0,d1,d2,d3,d4,d5⟩:=E.out z Br;clear d3 d4 d5;by_cases k1:kind=1
 ·have x:=e1 k1;obtain rfl:size=S:=by rw[J,if_neg (by omega)]
  obtain⟨r,u⟩:=Nm (t % size);rw[<-u]at x;have Q:=Int.emod_nonneg t (show size≠0 by omega)
  rw[<-u]at Q;subst k1;have D:=Lh (bfy u (bfy x (bfy Z (bfy b2 (bfy s4 (bfy h1 Q))))));clear e1 e2 e3 J c3 c4 u x Q Z b2 s1 Y s3;go_enter func218,ntmps218;go_upto_region 1 with fail;rw[<-l,<-M];clear l M;go_upto_region 3 with fail;refine wp_region_seq_frame (by kernel_rfl) (NoF [none,none,none,none,none]) [] (vOfC [.int .i64 t,.int .i64 t,.pointer (some ⟨e,1,none⟩),.int .i64 size,.int .i64 r,.int .i64 F,.pointer (some ⟨e,1,none⟩),.int .i64 size,.int .i64 F,.int .i64 size]) (λ_ m=>Bw z m) (λ_ _=>True) (λ_ _ _ _ _ h=>h) (by kernel_rfl) (by kernel_rfl) (by kernel_rfl) O.out ⟨trivial,trivial,trivial,trivial,trivial,trivial,trivial,trivial,trivial,trivial,trivial⟩ ?_ ?_
  ·refine ⟨?_,?_,?_,?_,?_,?_,?_,?_,?_,?_,trivial⟩<;>intro k a m b o d K c<;>replace o:=Lh o<;>replace d:=Lh d
   ·have q1:=FiA o 1 t;go_step;exact c _ _ rfl b trivial
   ·have q1:=FiA o 1 t;go_step;exact c _ _ rfl b trivial
   ·have q2:=FaA o 2 e 0;go_step;exact c _ _ rfl b trivial
   ·have ab:=Pa a 13 e 1 d.out.1;have hc:=(E.out m b).2.1;go_step;exact c _ _ rfl b trivial
   ·have ac:=Pi a 12 t d.out.1;have ad:=Pi a 14 size d.out.2.1;obtain⟨L,R,n3,n4,n5,n6,n7⟩:=D.out;go_step;rw[if_neg (show ¬size=0 by omega)]
    exact c _ _ (by show _=Value.int .i64 r;rw[L]) b trivial
   ·have q11:=Pi a 11 t d.out.1;have ae:=Pi a 15 r d.out.2.1;obtain⟨L,R,n3,n4,n5,n6,n7⟩:=D.out;go_step;exact c _ _ (by rw[R];go_num) b trivial
   ·have q2:=FaA o 2 e 0;go_step;exact c _ _ rfl b trivial
   ·have af:=Pa a 17 e 1 d.out.1;have hc:=(E.out m b).2.1;go_step;exact c _ _ rfl b trivial
   ·have ag:=Pi a 16 F d.out.1;go_step;exact c _ _ rfl b trivial
   have ah:=Pi a 18 size d.out.1;go_step;exact c _ _ rfl b trivial
  intro vs w2 b p s
  match vs,p,s with
  | [v0,v1,v2,v3,v4,v5,v6,v7,v8,v9],_,s=>
   obtain rfl:v8=.int .i64 F:=s 8 4 v8 rfl rfl;obtain rfl:v9=.int .i64 size:=s 9 5 v9 rfl rfl;clear s;simp only[putsL,bf7,bf1];simp only[Act.put,bfw,bfu,bfv];have y:Hid (Bw w w2):=Lh (N.out.1.trans (b.mono N.out.1.size));clear b D;go_wp2_with fail;refine bodyPost_ret (results_tmp2 rfl _ _ _) rfl ?_;exact⟨rfl,y.out⟩
 by_cases k3:kind=3
 ·obtain rfl:t=F:=(e3 k3).symm;obtain rfl:size=S:=by rw[J,if_neg (by omega)]
  subst k3;have D:=Lh h1;clear e1 e2 e3 J c3 c4 Z b2 s1 Y s3;go_enter func218,ntmps218;go_upto_region 1 with fail;rw[<-l,<-M];clear l M;go_upto_region 7 with fail;refine wp_region_seq_frame (by kernel_rfl) [none,none,none,none,none] [] (vOfC [.int .i64 t,.pointer (some ⟨e,1,none⟩),.int .i64 size,.int .i64 t,.int .i64 size]) (λ_ m=>Bw z m) (λ_ _=>True) (λ_ _ _ _ _ h=>h) (by kernel_rfl) (by kernel_rfl) (by kernel_rfl) O.out ⟨trivial,trivial,trivial,trivial,trivial,trivial⟩ ?_ ?_
  ·refine ⟨?_,?_,?_,?_,?_,trivial⟩<;>intro k a m b o d K c<;>replace o:=Lh o<;>replace d:=Lh d
   ·have q1:=FiA o 1 t;go_step;exact c _ _ rfl b trivial
   ·have q2:=FaA o 2 e 0;go_step;exact c _ _ rfl b trivial
   ·have UR:=Pa a 41 e 1 d.out.1;have hc:=(E.out m b).2.1;go_step;exact c _ _ rfl b trivial
   ·have uj:=Pi a 40 t d.out.1;go_step;exact c _ _ rfl b trivial
   have I8:=Pi a 42 size d.out.1;go_step;exact c _ _ rfl b trivial
  intro vs w2 b p s
  match vs,p,s with
  | [v0,v1,v2,v3,v4],_,s=>
   obtain rfl:v3=.int .i64 t:=s 3 4 v3 rfl rfl;obtain rfl:v4=.int .i64 size:=s 4 5 v4 rfl rfl;clear s;simp only[putsL,bf7,bf1];simp only[Act.put,bfw,bfu,bfv];have y:Hid (Bw w w2):=Lh (N.out.1.trans (b.mono N.out.1.size));clear b;go_wp2_with fail;refine bodyPost_ret (results_tmp2 rfl _ _ _) rfl ?_;exact⟨rfl,y.out⟩
 have k2:kind=2:=by omega
 have x:=e2 k2;obtain rfl:n=S:=by rw[J,if_pos k2]
 subst k2;obtain⟨j,iq⟩:=Nm (max (t - size+1) 0);rw[<-iq]at x;have l0:0<=j/\j<=1099511627776:=by
  omega
 obtain⟨kq,U⟩:=Nm ((j+n - 1) / n);rw[<-U]at x;have I:=U;have HL:=Lh iq;have aa:Hid (j=if t-size+1<0 then 0 else t-size+1):=Lh (by rw[iq];split <;> omega)
 have D:=Lh (bfy I (bfy x (bfy Z (bfy b2 (bfy s1 (bfy h1 (bfy Y (bfy s5 l0))))))));clear e1 e2 e3 J c3 c4 Z b2 Y s3 x I U iq;go_enter func218,ntmps218;go_upto_region 1 with fail;rw[<-l,<-M];clear l M;go_upto_region 6 with fail
 first | rw[<-HL.out] | rw[<-aa.out]
 refine wp_region_seq_frame (by kernel_rfl) (NoF (NoF [none,none,none,none,none])) [] (vOfC [.int .i64 j,.pointer (some ⟨e,2,none⟩),.int .i64 n,.int .i64 (j+n),.int .i64 (j+n-1),.pointer (some ⟨e,2,none⟩),.int .i64 n,.int .i64 kq,.pointer (some ⟨e,2,none⟩),.int .i64 n,.int .i64 F,.pointer (some ⟨e,2,none⟩),.int .i64 n,.int .i64 F,.int .i64 n]) (λ_ m=>Bw z m) (λ_ _=>True) (λ_ _ _ _ _ h=>h) (by kernel_rfl) (by kernel_rfl) (by kernel_rfl) O.out ⟨trivial,trivial,trivial,trivial,trivial,trivial,trivial,trivial,trivial,trivial,trivial,trivial,trivial,trivial,trivial,trivial⟩ ?_ ?_
 ·refine ⟨?_,?_,?_,?_,?_,?_,?_,?_,?_,?_,?_,?_,?_,?_,?_,trivial⟩<;>intro k a m b o d K c<;>replace o:=Lh o<;>replace d:=Lh d
  ·have q6:=FiA o 6 j;go_step;exact c _ _ rfl b trivial
  ·have q2:=FaA o 2 e 0;go_step;exact c _ _ rfl b trivial
  ·have aT:=Pa a 28 e 2 d.out.1;have hc:=(E.out m b).2.2.1;go_step;exact c _ _ rfl b trivial
  ·have Zz:=Pi a 27 j d.out.1;have aU:=Pi a 29 n d.out.2.1;obtain⟨L,R,n3,n4,n5,n6,n7,n8,n9,n10⟩:=D.out;go_step;exact c _ _ (by go_num) b trivial
  ·have ai:=Ep a 30 (.int .i64 (j+n)) d.out.1;obtain⟨L,R,n3,n4,n5,n6,n7,n8,n9,n10⟩:=D.out;go_step;exact c _ _ (by go_num) b trivial
  ·have q2:=FaA o 2 e 0;go_step;exact c _ _ rfl b trivial
  ·have aj:=Pa a 32 e 2 d.out.1;have hc:=(E.out m b).2.2.1;go_step;exact c _ _ rfl b trivial
  ·have UQ:=Ep a 31 (.int .i64 (j+n-1)) d.out.1;have I5:=Pi a 33 n d.out.2.1;obtain⟨L,R,n3,n4,n5,n6,n7,n8,n9,n10⟩:=D.out;go_step;rw[if_neg (show ¬n=0 by omega)]
   exact c _ _ (by show _=Value.int .i64 kq;rw[L]) b trivial
  ·have q2:=FaA o 2 e 0;go_step;exact c _ _ rfl b trivial
  ·have ak:=Pa a 35 e 2 d.out.1;have hc:=(E.out m b).2.2.1;go_step;exact c _ _ rfl b trivial
  ·obtain ⟨p0,p1,_⟩:=d.out;have I7:=Pi a 34 kq p0;have Aj:=Pi a 36 n p1;obtain⟨L,R,n3,n4,n5,n6,n7,n8,n9,n10⟩:=D.out;have hw:wrap64 (kq*n)=F:=by rw[<-R];exact IntWalk.wrap64_in _ (by omega)
   clear p0 p1;go_step;exact c _ _ (by show _=Value.int .i64 F;rw[<-L,hw]) b trivial
  ·have q2:=FaA o 2 e 0;go_step;exact c _ _ rfl b trivial
  ·have ZX:=Pa a 38 e 2 d.out.1;have hc:=(E.out m b).2.2.1;go_step;exact c _ _ rfl b trivial
  ·have al:=Pi a 37 F d.out.1;go_step;exact c _ _ rfl b trivial
  have iy:=Pi a 39 n d.out.1;go_step;exact c _ _ rfl b trivial
 intro vs w2 b p s
 match vs,p,s with
 | [v0,v1,v2,v3,v4,v5,v6,v7,v8,v9,v10,v11,v12,v13,v14],_,s=>
  obtain rfl:v13=.int .i64 F:=s 13 4 v13 rfl rfl;obtain rfl:v14=.int .i64 n:=s 14 5 v14 rfl rfl;clear s;simp only[putsL,bf7,bf1];simp only[Act.put,bfw,bfu,bfv];have y:Hid (Bw w w2):=Lh (N.out.1.trans (b.mono N.out.1.size));clear b D;go_wp2_with fail;refine bodyPost_ret (results_tmp2 rfl _ _ _) rfl ?_;exact⟨rfl,y.out⟩
def pF(key:List (BitVec 8))(F st size:Int)(m:Nat):List bf:=(List.range m).map λ(i:Nat)=>⟨key,F+(i:Int)*st,F+(i:Int)*st+size⟩
theorem nY(key:List (BitVec 8))(F a size:Int)(m:Nat):(pF key F a size m).length=m:=by simp[pF]
theorem Dx(key:List (BitVec 8))(F a size:Int)(m:Nat):pF key F a size (m+1)=pF key F a size m++[⟨key,F+(m:Int)*a,F+(m:Int)*a+size⟩]:=by
 simp[pF,List.range_succ]
theorem Pg {q:bu} {key:List (BitVec 8)} {t:Int}(b:lm q key t=true):
  ∃m:Nat,m<=16/\rX q key t=pF key (jf q t) (dI q) q.size m/\∀j:Nat,jf q t+(j:Int)*dI q<=t↔j<m:=by
 have a:=b;simp only[lm,bf8,bf0]at a;obtain⟨⟨e,_⟩,d,k⟩:=a;obtain⟨l,n,o,p,r⟩:=gX e;by_cases c:q.kind=3
 ·refine⟨1,by decide,?_,λj=>?_⟩
  ·rw[rX,if_pos b,if_pos c,jf,if_pos c];simp[pF]
  rw[jf,if_pos c];by_cases h:j<1
  ·obtain rfl:j=0:=by omega
   simp
  have:(1:Int)*dI q<=(j:Int)*dI q:=Int.mul_le_mul_of_nonneg_right (by omega) (by omega)
  omega
 have s:=rU e d;refine⟨(t / dI q+1-Gg q t).toNat,by omega,?_,λj=>?_⟩
 ·rw[rX,if_pos b,if_neg c,VG,pF,jf,if_neg c];refine List.map_congr_left λi _=>?_;rw[xP,Int.add_mul]
 rw[jf,if_neg c,<-Int.add_mul,<-Int.le_ediv_iff_mul_le (by omega)]
 omega
def VR(w:World)(key:List (BitVec 8))(F st size:Int)(m:Nat)(out f:Value)(wr:World):Prop:=
 ∃j:Nat,j<=m/\f=.int .i64 (F+(j:Int)*st)/\dQ wr w.heap.size out (pF key F st size j)/\Bw w wr
theorem VL(w:World)(q:bu)(key:List (BitVec 8))(t:Int)(hl:key.length<=1000000):
  Calls prog 184 #[.agg q.cells,Sv key,.int .i64 t] w (FI w (rX q key t)):=by
 obtain⟨k,p⟩:=Nm (w.alloc (.cells q.cells 23));obtain⟨qb,XW⟩:=Nm (w.heap.size);have D:Hid (Bw w k/\dB k qb q):=by
  rw[p,XW];exact Lh ⟨(Below.refl _ w).alloc (bfx _) _,bg5 w _⟩
 obtain⟨P,hP⟩:=Nm (FI w (rX q key t));rw[<-hP];have HP:=Lh hP;obtain⟨I,Zl⟩:=Nm (q:bu);have YJ:=Lh Zl;obtain⟨r,hr⟩:=Nm (q.rightB);obtain⟨nb,ab⟩:=Nm (nameB key);obtain⟨tb,ac⟩:=Nm (decide (0<=t/\t<=1099511627776));have l:Hid (∀b,Calls prog 91 #[.agg q.cells] b (Below0 b (.bool r))):=by
  rw[hr];exact Lh (λb=>kS b q)
 have ad:Hid (∀b,Calls prog 116 #[Sv key] b λe ae=>e=.returned (.bool nb)/\ae=b):=by
  rw[ab];exact Lh (λb=>ename_any b key hl)
 have aj:Hid (∀b,Calls prog 117 #[.int .i64 t] b λe ae=>e=.returned (.bool tb)/\ae=b):=by
  rw[ac];exact Lh (λb=>yM b t)
 have YD:Hid (lm I key t=(r && nb && tb)):=by
  rw[hr,ab,ac,Zl];exact Lh rfl
 rw[<-Zl]at D;clear hP hr ab ac hl;obtain⟨S,size,s,U,agg,tk⟩:=q;unfold bu.cells at p l;unfold bu.cells;simp only at p l ⊢;have Yk:Hid (∀Y,lm I key t=false->Bw w Y->P (.returned (.slice none 0 0)) Y):=by
  refine Lh (λY h d=>?_);rw[HP.out,<-YJ.out,rX,h,if_neg (by decide)]
  exact⟨none,0,rfl,bfx _,.inl rfl,d⟩
 have HD:Hid (∀b,Bw k b->D6 b qb S size s U agg tk):=by
  refine Lh (λb h=>?_);have h2:=(D.out.2.below h).d6;rw[YJ.out]at h2;exact h2
 obtain⟨J,K,d2,d3,d4,L⟩:=HD.out k Br;clear Zl;go_enter func184,ntmps184;go_upto_region 1 with fail;rw[<-p,<-XW];clear p XW
 cases r with
 | false=>
  go_wp2_with fail;refine(l.out k).mono ?_;rintro e E ⟨rfl,d⟩;have Z:=Lh (D.out.1.trans (d.mono D.out.1.size));clear d J K d2 d3 d4 L;dsimp only;go_wp2_with fail;exact Yk.out _ (by rw[YD.out];rfl) Z.out
 | true=>
 cases nb with
 | false=>
  go_wp2_with fail;refine(l.out k).mono ?_;rintro e E ⟨rfl,d⟩;have Z:=Lh (D.out.1.trans (d.mono D.out.1.size));clear d J K d2 d3 d4 L;dsimp only;go_wp2_with fail;refine(ad.out E).mono ?_;rintro e u ⟨rfl,M⟩;subst u;dsimp only;go_wp2_with fail;exact Yk.out _ (by rw[YD.out];rfl) Z.out
 | true=>
 cases tb with
 | false=>
  go_wp2_with fail;refine(l.out k).mono ?_;rintro e E ⟨rfl,d⟩;have Z:=Lh (D.out.1.trans (d.mono D.out.1.size));clear d J K d2 d3 d4 L;dsimp only;go_wp2_with fail;refine(ad.out E).mono ?_;rintro e u ⟨rfl,M⟩;subst u;dsimp only;go_wp2_with fail;refine(aj.out E).mono ?_;rintro e u ⟨rfl,M⟩;subst u;dsimp only;go_wp2_with fail;exact Yk.out _ (by rw[YD.out];rfl) Z.out
 | true=>
 have af:lm I key t=true:=by rw[YD.out];rfl
 have aa:=af;simp only[lm,bf8,bf0]at aa;obtain⟨⟨eQ,_⟩,N,ag⟩:=aa;obtain⟨s1,s2,s3,s4,s5⟩:=gX eQ;obtain⟨f0,f1⟩:=yx eQ N;have ak:I.size=size:=by rw[YJ.out]
 obtain⟨m,hm,O,y⟩:=Pg af;rw[ak]at O s2 s4 s5;have Zh:Hid (∀b,Calls prog 218 #[.agg #[.int .i64 S,.int .i64 size,.int .i64 s,.int .i64 U,.int .i64 agg,.int .i64 tk],.int .i64 t] b (Below0 b (.tuple #[.int .i64 (jf I t),.int .i64 (dI I)]))):=by
  refine Lh (λb=>?_);have h:=zq b I t eQ N ag;rw[YJ.out]at h ⊢;exact h
 obtain⟨F,hF⟩:=Nm (jf I t);obtain⟨n,ah⟩:=Nm (dI I);rw[<-hF,<-ah]at O y Zh;rw[<-hF]at f0 f1;rw[<-ah]at s1 s2;have XY:Hid (∀Y B v,dQ Y B v (pF key F n size m)->Bw w Y->P (.returned v) Y):=by
  refine Lh (λY B v ho d=>?_);rw[HP.out,<-YJ.out,O];obtain⟨a,c',e1,e2,e3⟩:=ho.form;exact⟨a,c',by rw[e1],e2,e3,d⟩
 have HM:=Lh (bfy hm (bfy y (bfy f0 (bfy f1 (bfy s1 (bfy s2 (bfy s4 (bfy s5 (bfy N ag)))))))));clear af eQ N ag s1 s2 s3 s4 s5 f0 f1 ak hm O y hF ah HP YJ YD Yk;go_wp2_with fail;refine(l.out k).mono ?_;rintro e E ⟨rfl,d⟩;have Z:=Lh d;clear d J K d2 d3 d4 L;dsimp only;go_wp2_with fail;refine(ad.out E).mono ?_;rintro e u ⟨rfl,M⟩;subst u;dsimp only;go_wp2_with fail;refine(aj.out E).mono ?_;rintro e u ⟨rfl,M⟩;subst u;dsimp only;obtain⟨J,K,d2,d3,d4,L⟩:=HD.out E Z.out;go_wp2_with fail;refine(Zh.out E).mono ?_;rintro e ws ⟨rfl,d⟩;have HS:=Lh (Tb Z.out d);clear d J K d2 d3 d4 L;dsimp only;go_wp2_with fail;obtain⟨Sr,al⟩:=Nm (VR k key F n size m);have Zg:Hid (∀o f wr,Sr o f wr↔∃j:Nat,j<=m/\f=.int .i64 (F+(j:Int)*n)/\dQ wr k.heap.size o (pF key F n size j)/\Bw k wr):=by
  rw[al];exact Lh (λ_ _ _=>Iff.rfl)
 clear al;go_loopw[7,10] Sr (λ_ f _=>(t+1-intOf f).toNat)
 case atStart=>exact(Zg.out _ _ _).2 ⟨0,bgi _,by rw[Int.natCast_zero,Int.zero_mul,Int.add_zero],dQ.nil _ _,HS.out⟩
 case round=>
  obtain⟨j,hj,rfl,hO,d⟩:=(Zg.out _ _ _).1 hrel;obtain⟨a,c,hu,am,au⟩:=hO.form;subst hu;rw[nY]at hO ⊢;have HO:=Lh (bfy hO d);clear am au;obtain⟨J,K,d2,d3,d4,L⟩:=HD.out wr d;obtain⟨n1,n2,n3,n4,n5,n6,n7,n8,n9,n10⟩:=HM.out;obtain⟨f,hf⟩:=Nm (F+(j:Int)*n);rw[<-hf];have an:0<=(j:Int)*n:=Int.mul_nonneg (by omega) (by omega)
  have ax:0<=f:=by omega
  have Q:f<=t↔j<m:=by rw[hf];exact n2 j
  by_cases R:j<m
  ·have av:f<=t:=Q.2 R;have ao:F+((j+1:Nat):Int)*n=f+n:=by
    rw[hf,Int.natCast_add,Int.add_mul,Int.natCast_one,Int.one_mul];omega
   obtain⟨x,hx⟩:=Nm (bf.mk key f (f+size));have ap:pF key F n size (j+1)=pF key F n size j++[x]:=by rw[Dx,<-hf,hx]
   have Ye:=l9 key f (f+size);rw[<-hx]at Ye;have HN:=Lh (bfy ao (bfy R (bfy ap n1)));clear hO d R n1 n2 n3 n4 hj ao ap Q hf an;go_upto_region 8 with fail;refine bg4 ?_
   iterate 21 go_step
   refine bV (by kernel_rfl) 34 _ rfl x.cells (by simp only[bgb,bgc,bge];exact Ye) ?_
   clear Ye hx;refine wpList_slice1_W rfl (.tmp 44) rfl x rfl ?_;have HW:Hid (dQ (wr.alloc (.cells x.cells 34)) k.heap.size (.slice a j c) (pF key F n size j)/\Bw k (wr.alloc (.cells x.cells 34))):=by
    obtain⟨h1,h2⟩:=HO.out;have hn:Bw wr (wr.alloc (.cells x.cells 34)):=(Below.refl _ wr).alloc (bfx _) _;exact Lh ⟨h1.far hn,Tb h2 hn⟩
   have HU:Hid (∀i z,x.cells[i]? =some z->(wr.alloc (.cells x.cells 34)).cell? ⟨wr.heap.size,i,none⟩=some z):=by
    refine Lh (λi z hz=>?_);rw[cell_of_row _ _ _ _ _ _ (bg5 wr _)];exact hz
   clear J K d2 d3 d4 L;obtain⟨gn,ar⟩:=Nm (wr.heap.size);obtain⟨wn,ai⟩:=Nm (wr.alloc (.cells x.cells 34));rw[<-ai,<-ar]at HU ⊢;rw[<-ai]at HW;clear ai ar;refine xW rfl (.tmp 37) (.tmp 45) rfl k.heap.size (.slice a j c) (pF key F n size j) rfl HW.out.1 x gn rfl HU.out (by rw[nY];have:=HN.out.2.1;have:=HN.out.2.2.2;omega) HW.out.2.size ?_
   intro v' u g1 g2 g3;have aw:Hid (Sr v' (.int .i64 (f+n)) u):=by
    obtain⟨h1,h2⟩:=HW.out;refine Lh ((Zg.out _ _ _).2 ⟨j+1,HN.out.2.1,by rw[HN.out.1],?_,h2.trans (h1.below g2 h2.size)⟩)
    rw[HN.out.2.2.1];exact g1
   clear g1 g2 g3;go_wp2_with fail;go_roundw
   case rel=>exact aw.out
   case measure=>simp[intOf];omega
  obtain rfl:j=m:=by omega
  have av:¬f<=t:=λh=>by
   have:=Q.1 h;omega
  have HZ:Hid (P (.returned (.slice a j c)) wr):=Lh (XY.out wr k.heap.size _ HO.out.1 (D.out.1.trans (HO.out.2.mono D.out.1.size)));clear hO d R n1 n2 n3 n4 n5 n6 n7 n8 n9 n10 hj Q hf an J K d2 d3 d4 L;go_wp2_with fail;exact HZ.out
end Go.Proofs.YtgfmbkoieacgoaaGreatDoor
set_option maxRecDepth 100000
set_option maxHeartbeats 2000000
namespace Go.Proofs.YtgfmbkoieacgoaaGreatDoor
open Go Go.RowKit Go.Proofs.Tryz
theorem VD(w:World)(q:bu)(key:List (BitVec 8))(t:Int)(hl:key.length<=1000000):
  Calls prog 184 #[.agg q.cells,Sv key,.int .i64 t] w (qm w (rX q key t)):=by
 obtain⟨k,p⟩:=Nm (w.alloc (.cells q.cells 23));obtain⟨qb,XW⟩:=Nm (w.heap.size);have s:Hid (Bw w k/\dB k qb q):=by
  rw[p,XW];exact Lh ⟨(Below.refl _ w).alloc (bfx _) _,bg5 w _⟩
 obtain⟨P,hP⟩:=Nm (qm w (rX q key t));rw[<-hP];have HP:=Lh hP;obtain⟨I,Zl⟩:=Nm (q:bu);have YJ:=Lh Zl;obtain⟨r,hr⟩:=Nm (q.rightB);obtain⟨nb,ab⟩:=Nm (nameB key);obtain⟨tb,ac⟩:=Nm (decide (0<=t/\t<=1099511627776));have l:Hid (∀b,Calls prog 91 #[.agg q.cells] b (Below0 b (.bool r))):=by
  rw[hr];exact Lh (λb=>kS b q)
 have ad:Hid (∀b,Calls prog 116 #[Sv key] b λe ae=>e=.returned (.bool nb)/\ae=b):=by
  rw[ab];exact Lh (λb=>ename_any b key hl)
 have aj:Hid (∀b,Calls prog 117 #[.int .i64 t] b λe ae=>e=.returned (.bool tb)/\ae=b):=by
  rw[ac];exact Lh (λb=>yM b t)
 have YD:Hid (lm I key t=(r && nb && tb)):=by
  rw[hr,ab,ac,Zl];exact Lh rfl
 rw[<-Zl]at s;clear hP hr ab ac hl;obtain⟨S,size,u,U,agg,tk⟩:=q;unfold bu.cells at p l;unfold bu.cells;simp only at p l ⊢;have Yk:Hid (∀Y,lm I key t=false->Bw w Y->P (.returned (.slice none 0 0)) Y):=by
  refine Lh (λY h d=>?_);rw[HP.out,<-YJ.out,rX,h,if_neg (by decide)]
  exact⟨_,rfl,dQ.nil _ _,d⟩
 have HD:Hid (∀b,Bw k b->D6 b qb S size u U agg tk):=by
  refine Lh (λb h=>?_);have h2:=(s.out.2.below h).d6;rw[YJ.out]at h2;exact h2
 obtain⟨J,K,d2,d3,d4,L⟩:=HD.out k Br;clear Zl;go_enter func184,ntmps184;go_upto_region 1 with fail;rw[<-p,<-XW];clear p XW
 cases r with
 | false=>
  go_wp2_with fail;refine(l.out k).mono ?_;rintro e E ⟨rfl,d⟩;have Z:=Lh (s.out.1.trans (d.mono s.out.1.size));clear d J K d2 d3 d4 L;dsimp only;go_wp2_with fail;exact Yk.out _ (by rw[YD.out];rfl) Z.out
 | true=>
 cases nb with
 | false=>
  go_wp2_with fail;refine(l.out k).mono ?_;rintro e E ⟨rfl,d⟩;have Z:=Lh (s.out.1.trans (d.mono s.out.1.size));clear d J K d2 d3 d4 L;dsimp only;go_wp2_with fail;refine(ad.out E).mono ?_;rintro e y ⟨rfl,M⟩;subst y;dsimp only;go_wp2_with fail;exact Yk.out _ (by rw[YD.out];rfl) Z.out
 | true=>
 cases tb with
 | false=>
  go_wp2_with fail;refine(l.out k).mono ?_;rintro e E ⟨rfl,d⟩;have Z:=Lh (s.out.1.trans (d.mono s.out.1.size));clear d J K d2 d3 d4 L;dsimp only;go_wp2_with fail;refine(ad.out E).mono ?_;rintro e y ⟨rfl,M⟩;subst y;dsimp only;go_wp2_with fail;refine(aj.out E).mono ?_;rintro e y ⟨rfl,M⟩;subst y;dsimp only;go_wp2_with fail;exact Yk.out _ (by rw[YD.out];rfl) Z.out
 | true=>
 have af:lm I key t=true:=by rw[YD.out];rfl
 have aa:=af;simp only[lm,bf8,bf0]at aa;obtain⟨⟨eQ,_⟩,N,ag⟩:=aa;obtain⟨s1,s2,s3,s4,s5⟩:=gX eQ;obtain⟨f0,f1⟩:=yx eQ N;have ak:I.size=size:=by rw[YJ.out]
 obtain⟨m,hm,O,D⟩:=Pg af;rw[ak]at O s2 s4 s5;have Zh:Hid (∀b,Calls prog 218 #[.agg #[.int .i64 S,.int .i64 size,.int .i64 u,.int .i64 U,.int .i64 agg,.int .i64 tk],.int .i64 t] b (Below0 b (.tuple #[.int .i64 (jf I t),.int .i64 (dI I)]))):=by
  refine Lh (λb=>?_);have h:=zq b I t eQ N ag;rw[YJ.out]at h ⊢;exact h
 obtain⟨F,hF⟩:=Nm (jf I t);obtain⟨n,ah⟩:=Nm (dI I);rw[<-hF,<-ah]at O D Zh;rw[<-hF]at f0 f1;rw[<-ah]at s1 s2;have XY:Hid (∀Y B v,w.heap.size<=B->dQ Y B v (pF key F n size m)->Bw w Y->P (.returned v) Y):=by
  refine Lh (λY B v hb ho d=>?_);rw[HP.out,<-YJ.out,O];exact⟨v,rfl,ho.mono hb,d⟩
 have HM:=Lh (bfy hm (bfy D (bfy f0 (bfy f1 (bfy s1 (bfy s2 (bfy s4 (bfy s5 (bfy N ag)))))))));clear af eQ N ag s1 s2 s3 s4 s5 f0 f1 ak hm O D hF ah HP YJ YD Yk;go_wp2_with fail;refine(l.out k).mono ?_;rintro e E ⟨rfl,d⟩;have Z:=Lh d;clear d J K d2 d3 d4 L;dsimp only;go_wp2_with fail;refine(ad.out E).mono ?_;rintro e y ⟨rfl,M⟩;subst y;dsimp only;go_wp2_with fail;refine(aj.out E).mono ?_;rintro e y ⟨rfl,M⟩;subst y;dsimp only;obtain⟨J,K,d2,d3,d4,L⟩:=HD.out E Z.out;go_wp2_with fail;refine(Zh.out E).mono ?_;rintro e ws ⟨rfl,d⟩;have HS:=Lh (Tb Z.out d);clear d J K d2 d3 d4 L;dsimp only;go_wp2_with fail;obtain⟨Sr,al⟩:=Nm (VR k key F n size m);have Zg:Hid (∀o f wr,Sr o f wr↔∃j:Nat,j<=m/\f=.int .i64 (F+(j:Int)*n)/\dQ wr k.heap.size o (pF key F n size j)/\Bw k wr):=by
  rw[al];exact Lh (λ_ _ _=>Iff.rfl)
 clear al;go_loopw[7,10] Sr (λ_ f _=>(t+1-intOf f).toNat)
 case atStart=>exact(Zg.out _ _ _).2 ⟨0,bgi _,by rw[Int.natCast_zero,Int.zero_mul,Int.add_zero],dQ.nil _ _,HS.out⟩
 case round=>
  obtain⟨j,hj,rfl,hO,d⟩:=(Zg.out _ _ _).1 hrel;obtain⟨a,c,hu,am,au⟩:=hO.form;subst hu;rw[nY]at hO ⊢;have HO:=Lh (bfy hO d);clear am au;obtain⟨J,K,d2,d3,d4,L⟩:=HD.out wr d;obtain⟨n1,n2,n3,n4,n5,n6,n7,n8,n9,n10⟩:=HM.out;obtain⟨f,hf⟩:=Nm (F+(j:Int)*n);rw[<-hf];have an:0<=(j:Int)*n:=Int.mul_nonneg (by omega) (by omega)
  have ax:0<=f:=by omega
  have Q:f<=t↔j<m:=by rw[hf];exact n2 j
  by_cases R:j<m
  ·have av:f<=t:=Q.2 R;have ao:F+((j+1:Nat):Int)*n=f+n:=by
    rw[hf,Int.natCast_add,Int.add_mul,Int.natCast_one,Int.one_mul];omega
   obtain⟨x,hx⟩:=Nm (bf.mk key f (f+size));have ap:pF key F n size (j+1)=pF key F n size j++[x]:=by rw[Dx,<-hf,hx]
   have Ye:=l9 key f (f+size);rw[<-hx]at Ye;have HN:=Lh (bfy ao (bfy R (bfy ap n1)));clear hO d R n1 n2 n3 n4 hj ao ap Q hf an;go_upto_region 8 with fail;refine bg4 ?_
   iterate 21 go_step
   refine bV (by kernel_rfl) 34 _ rfl x.cells (by simp only[bgb,bgc,bge];exact Ye) ?_
   clear Ye hx;refine wpList_slice1_W rfl (.tmp 44) rfl x rfl ?_;have HW:Hid (dQ (wr.alloc (.cells x.cells 34)) k.heap.size (.slice a j c) (pF key F n size j)/\Bw k (wr.alloc (.cells x.cells 34))):=by
    obtain⟨h1,h2⟩:=HO.out;have hn:Bw wr (wr.alloc (.cells x.cells 34)):=(Below.refl _ wr).alloc (bfx _) _;exact Lh ⟨h1.far hn,Tb h2 hn⟩
   have HU:Hid (∀i z,x.cells[i]? =some z->(wr.alloc (.cells x.cells 34)).cell? ⟨wr.heap.size,i,none⟩=some z):=by
    refine Lh (λi z hz=>?_);rw[cell_of_row _ _ _ _ _ _ (bg5 wr _)];exact hz
   clear J K d2 d3 d4 L;obtain⟨gn,ar⟩:=Nm (wr.heap.size);obtain⟨wn,ai⟩:=Nm (wr.alloc (.cells x.cells 34));rw[<-ai,<-ar]at HU ⊢;rw[<-ai]at HW;clear ai ar;refine xW rfl (.tmp 37) (.tmp 45) rfl k.heap.size (.slice a j c) (pF key F n size j) rfl HW.out.1 x gn rfl HU.out (by rw[nY];have:=HN.out.2.1;have:=HN.out.2.2.2;omega) HW.out.2.size ?_
   intro v' y g1 g2 g3;have aw:Hid (Sr v' (.int .i64 (f+n)) y):=by
    obtain⟨h1,h2⟩:=HW.out;refine Lh ((Zg.out _ _ _).2 ⟨j+1,HN.out.2.1,by rw[HN.out.1],?_,h2.trans (h1.below g2 h2.size)⟩)
    rw[HN.out.2.2.1];exact g1
   clear g1 g2 g3;go_wp2_with fail;go_roundw
   case rel=>exact aw.out
   case measure=>simp[intOf];omega
  obtain rfl:j=m:=by omega
  have av:¬f<=t:=λh=>by
   have:=Q.1 h;omega
  have HZ:Hid (P (.returned (.slice a j c)) wr):=Lh (XY.out wr k.heap.size _ s.out.1.size HO.out.1 (s.out.1.trans (HO.out.2.mono s.out.1.size)));clear hO d R n1 n2 n3 n4 n5 n6 n7 n8 n9 n10 hj Q hf an J K d2 d3 d4 L;go_wp2_with fail;exact HZ.out
end Go.Proofs.YtgfmbkoieacgoaaGreatDoor
set_option maxRecDepth 100000
set_option maxHeartbeats 4000000
namespace Go.Proofs.YtgfmbkoieacgoaaGreatDoor
open Go Go.RowKit Go.Proofs.Tryz
theorem KC(w:World)(X:Nat->Prop)(b:Nat)(l:List (BitVec 8))(x:bf)(hr:x.rightB=true)(hP:PenAt X w b l)(hX:∀k,X k->k<w.heap.size)(hl:l.length<=1073700000):
  Calls prog 67 #[.pointer (some ⟨b,0,none⟩),.agg x.cells] w (PenEnd X b w (l++x.bytes) (.bool true)):=by
 obtain⟨key,lo,o⟩:=x;obtain⟨_,_,y,h0,F,z,h3⟩:=bU hr;simp only at y h0 F z h3;obtain⟨a,rfl⟩:∃n:Nat,lo=(n:Int):=⟨lo.toNat,by omega⟩
 obtain⟨d,rfl⟩:∃n:Nat,o=(a:Int)+(n:Int):=⟨(o - a).toNat,by omega⟩
 have Q:=hP.lt;obtain⟨o,D⟩:=Nm ((a:Int)+(d:Int):Int);rw[<-D]at hr ⊢;obtain⟨m,q⟩:=Nm (w.alloc (.cells (bf.mk key (a:Int) o).cells 34));have HB:Hid (Bw w m):=by rw[q];exact(Below.refl _ w).alloc (bfx _) _
 have I:m.heap[w.heap.size]? =some (.cells (bf.mk key (a:Int) o).cells 34 (0,0)):=by rw[q];exact bg5 w _
 have J:Hid (∀h,PKept X b m h->∀i v,(bf.mk key (a:Int) o).cells[i]? =some v->h.cell? ⟨w.heap.size,i,none⟩=some v):=λh hK i v o=>by
  rw[cell_of_row h _ i _ _ _ (hK.row I (by decide) (by omega))]
  exact o
 have E:Hid (PKept X b w m):=PKept.of_below HB.out;have ae:Hid (PenAt X m b l):=hP.below HB.out;have HR:=Lh (gQ m (bf.mk key (a:Int) o) (bgn y (by decide)))
 rw[hr]at HR;have HN:Hid (∀h r n,n<9223372036854775808->r.length<=1073710000->PenAt X h b r->PKept X b w h->Calls prog 65 #[.pointer (some ⟨b,0,none⟩),.int .i64 ((n:Nat):Int)] h (PenEnd X b h (r++wordL n) (.bool true))):=
  Lh (λh r n hn af F z=>pnumber_any h X b n r hn F (λk p=>Nat.lt_of_lt_of_le (hX k p) z.size) (by omega))
 have HT:Hid (∀h j c r,Bw h j->(∀i<key.length,j.cell? ⟨h.heap.size,i,none⟩=some (B (gl key i)))->r.length<=1073710000->PenAt X h b r->PKept X b w h->
   Calls prog 119 #[.pointer (some ⟨b,0,none⟩),.slice (some ⟨h.heap.size,0,none⟩) key.length c] j (λe s=>e=.returned (.bool true)/\PenAt X s b (r++textL key)/\PKept X b h s)):=by
  refine Lh (λh j c r N hc af F z=>?_);have h3:PenAt (λk=>X k∨k=h.heap.size) j b r:=(F.more _ (λk p=>p.imp id (λe=>by omega))).below N
  have hs:h.heap.size<j.heap.size∨key.length=0:=by
   by_cases h0:key.length=0
   ·exact .inr h0
   exact .inl (block_lt_of_cell (hc 0 (by omega)))
  have ah:b<h.heap.size:=Nat.lt_of_lt_of_le Q z.size;rcases hs with hs | hs
  ·refine(ptext_any j (λk=>X k∨k=h.heap.size) b key.length c (some ⟨h.heap.size,0,none⟩) r key rfl (.inr ⟨_,_,rfl,.inr rfl,by omega,λi o=>by rw[bgu];exact hc i o⟩) (by omega) h3 (λk p=>?_) (by omega)).mono ?_
   ·rcases p with p | p
    ·exact Nat.lt_of_lt_of_le (hX k p) (bgn z.size N.size)
    omega
   rintro e s ⟨rfl,k1,k2⟩;exact⟨rfl,k1.mono λk p=> .inl p,(PKept.of_below N).trans (k2.mono λk p=> .inl p)⟩
  refine(ptext_any j X b key.length c (some ⟨h.heap.size,0,none⟩) r key rfl (.inl hs) (by omega) (F.below N) (λk p=>Nat.lt_of_lt_of_le (hX k p) (bgn z.size N.size)) (by omega)).mono ?_
  rintro e s ⟨rfl,k1,k2⟩;exact⟨rfl,k1,(PKept.of_below N).trans k2⟩
 have c0:m.cell? ⟨w.heap.size,0,none⟩=some (Sv key):=J.out m (PKept.refl _ _ _) 0 _ rfl;have c1:m.cell? ⟨w.heap.size,1,none⟩=some (.int .i64 (a:Int)):=J.out m (PKept.refl _ _ _) 1 _ rfl;have c2:m.cell? ⟨w.heap.size,2,none⟩=some (.int .i64 o):=J.out m (PKept.refl _ _ _) 2 _ rfl;obtain⟨L,R⟩:=Nm (l++(bf.mk key (a:Int) o).bytes);rw[<-R];have R:L=(((l++textL key)++wordL a)++wordL d):=by
  rw[R,bf.bytes];simp only[numberL,D,show((a:Int)+(d:Int)-(a:Int))=(d:Int) by omega,Int.toNat_natCast,bgz]
 have O:=Lh (bfy R (bfy hl (bfy (show a<9223372036854775808 by omega) (bfy (show d<9223372036854775808 by omega) y))))
 have ai:wrap64 (o-(a:Int))=(d:Int):=by
  rw[D,show((a:Int)+(d:Int)-(a:Int))=(d:Int) by omega]
  exact IntWalk.wrap64_in _ (by omega)
 unfold bf.cells at q HR ⊢;simp only at q;clear I hr hP hX hl R y Q h0 F z h3 D;go_enter func67,ntmps67;go_upto_region 1 with fail;rw[<-q];clear q;go_wp2_with fail;refine HR.out.mono ?_;rintro e s ⟨rfl,K⟩;have H3:Hid (PenAt X s b l/\PKept X b m s):=Lh ⟨ae.out.below K,PKept.of_below K⟩;clear K c0 c1 c2;have c0:s.cell? ⟨w.heap.size,0,none⟩=some (Sv key):=J.out s H3.out.2 0 _ rfl;obtain⟨cc,w5,ag,S,u⟩:=conv_bytes s key;have H5:=Lh (bfy S u);clear S u;dsimp only;go_wp2_with fail;refine(HT.out s w5 cc l H5.out.1 H5.out.2 (by have:=O.out.2.1;omega) H3.out.1 (E.out.trans H3.out.2)).mono ?_
 rintro e U ⟨rfl,Y,Z⟩;have H6:Hid (PenAt X U b (l++textL key)/\PKept X b m U):=Lh ⟨Y,H3.out.2.trans Z⟩;clear Y Z c0 ag;have c1:U.cell? ⟨w.heap.size,1,none⟩=some (.int .i64 (a:Int)):=J.out U H6.out.2 1 _ rfl;have l6:Hid ((l++textL key).length<=1073700040):=by
  have F:=O.out.2.1;have z:=O.out.2.2.2.2;have h4:=wordL_length key.length;refine Lh ?_;simp only[textL,bft];omega
 dsimp only;go_wp2_with fail;refine(HN.out U _ a O.out.2.2.1 (by have:=l6.out;omega) H6.out.1 (E.out.trans H6.out.2)).mono ?_
 rintro e M ⟨rfl,aa,ab⟩;have H7:Hid (PenAt X M b ((l++textL key)++wordL a)/\PKept X b m M):=Lh ⟨aa,H6.out.2.trans ab⟩;clear aa ab c1;have c1:M.cell? ⟨w.heap.size,1,none⟩=some (.int .i64 (a:Int)):=J.out M H7.out.2 1 _ rfl;have c2:M.cell? ⟨w.heap.size,2,none⟩=some (.int .i64 o):=J.out M H7.out.2 2 _ rfl;dsimp only;go_wp2_with fail;refine(HN.out M _ d O.out.2.2.2.1 (by have:=l6.out;have:=wordL_length a;rw[bft];omega) H7.out.1 (E.out.trans H7.out.2)).mono ?_
 rintro e w8 ⟨rfl,ac,ad⟩;have H8:Hid (PenAt X w8 b (((l++textL key)++wordL a)++wordL d)/\PKept X b m w8):=Lh ⟨ac,H7.out.2.trans ad⟩;clear ac ad c1 c2;dsimp only;go_wp2_with fail;go_ret;refine⟨rfl,?_,E.out.trans H8.out.2⟩;rw[O.out.1];exact H8.out.1
def lH(base b xb:Nat)(w w':World)(t:TapeL)(x:bf):Prop:=
 RdAt base w' b t/\w.grownBy w' (some b)/\w'.heap[w.heap.size]? =some (.cells bF.cells 34 (0,0))/\w'.heap[xb]? =some (.cells x.cells 34 (0,0))/\w.heap.size<xb/\b<w.heap.size/\base<=w.heap.size
theorem lH.cell {a b c:Nat} {w w':World} {t:TapeL} {x:bf}(h:lH a b c w w' t x)(i:Nat) {v:Value}(d:x.cells[i]? =some v):w'.cell? ⟨c,i,none⟩=some v:=by
 rw[cell_of_row _ _ _ _ _ _ h.2.2.2.1];exact d
theorem lH.fro {a b c:Nat} {w w':World} {t:TapeL} {x:bf}(h:lH a b c w w' t x)(i:Nat):w'.frozen? ⟨c,i,none⟩=false:=frozen_of_row _ _ _ _ _ h.2.2.2.1
theorem lH.rd {a b e:Nat} {w w' c:World} {t j:TapeL} {x:bf}(h:lH a b e w w' t x)(m:RdAt a c b j)(d:w'.grownBy c (some b)):lH a b e w c j x:=by
 obtain⟨r,n,k,l,o,p,q⟩:=h;exact⟨m,grown_trans n d,(d.block _ (Array.getElem?_eq_some_iff.1 k).1 (by simp;omega)).trans k,(d.block _ (Array.getElem?_eq_some_iff.1 l).1 (by simp;omega)).trans l,o,p,q⟩
theorem lH.below {a b c:Nat} {w w' d:World} {t:TapeL} {x:bf}(h:lH a b c w w' t x)(e:Bw w' d):lH a b c w d t x:=h.rd (h.1.below e) (below_gb e)
theorem lH.set {a b c:Nat} {w w':World} {t:TapeL} {x y:bf}(h:lH a b c w w' t x)(i:Nat)(v:Value)(l:y.cells=x.cells.setIfInBounds i v):lH a b c w (w'.setCell ⟨c,i,none⟩ v) t y:=by
 obtain⟨m,d,n,o,p,q,r⟩:=h;refine⟨m.same (heap_setCell_other _ _ _ _ (by show b≠c;omega)) (λk j _ _=>heap_setCell_other _ _ _ _ (by show k≠c;omega)),⟨d.os,d.tape,d.output,by simpa[World.setCell]using d.size,λk j e=>(heap_setCell_other _ _ _ _ (by show k≠c;omega)).trans (d.block k j e)⟩,
  (heap_setCell_other _ _ _ _ (by show w.heap.size≠c;omega)).trans n,?_,p,q,r⟩
 rw[l];exact heap_setCell_same _ _ _ _ _ _ o
theorem lH.fin {a b l:Nat} {w w':World} {t:TapeL} {x:bf}(h:lH a b l w w' t x)(d:Array Value):
  (w'.setRow w.heap.size d).heap[w.heap.size]? =some (.cells d 34 (0,0))/\RdAt a (w'.setRow w.heap.size d) b t/\w.grownBy (w'.setRow w.heap.size d) (some b):=by
 obtain⟨m,c,n,o,p,q,r⟩:=h;exact⟨setRow_heap _ _ _ _ _ _ n,m.same (setRow_other _ _ _ _ (by omega)) (λk j _ _=>setRow_other _ _ _ _ (by omega)),⟨c.os,c.tape,c.output,by simpa[World.setRow]using c.size,λk j e=>(setRow_other _ _ _ _ (by omega)).trans (c.block k j e)⟩⟩
theorem Tt(t:TapeL):(t.fail 11).e≠0:=by
 unfold TapeL.fail
 split
 ·decide
 rename_i h;intro a;exact h ⟨a,by decide⟩
theorem Kr(key:List (BitVec 8))(a n b:Int)(t3:TapeL)(o:0<=a)(p:a<=9223372036854775807)(q:0<=n)(r:n<=9223372036854775807)(d:wrap64 (a+n)=b):
  ∀c,c=TapeL.nK (bf.mk key a b) t3->
   ((if (TapeL.nK (bf.mk key a (a+n)) t3).e=0 then bf.mk key a (a+n)else bF,TapeL.nK (bf.mk key a (a+n)) t3):bf × TapeL)=(if c.e=0 then bf.mk key a b else bF,c):=by
 rintro c rfl;by_cases h:a+n<=9223372036854775807
 ·rw[IntWalk.wrap64_in _ (by omega)]at d
  rw[d]
 have s:b<a:=by
  rw[<-d,wrap64];omega
 have j:(bf.mk key a b).rightB=false:=by
  rw[bf.rightB,bfq (by simp only;omega),Bool.and_false]
 have k:(bf.mk key a (a+n)).rightB=false:=by
  rw[bf.rightB,bfq (by simp only;omega),Bool.and_false]
 have l:TapeL.nK (bf.mk key a b) t3=t3.fail 11:=by rw[TapeL.nK,j];rfl
 have m:TapeL.nK (bf.mk key a (a+n)) t3=t3.fail 11:=by rw[TapeL.nK,k];rfl
 rw[l,m,if_neg (Tt t3),if_neg (Tt t3)]
theorem Fg(w:World)(a b:Nat)(t:TapeL)(h:RdAt a w b t):
  Calls prog 122 #[.pointer (some ⟨b,0,none⟩)] w (RdEnd a w b (t.number 9223372036854775807).2 (.int .i64 (t.number 9223372036854775807).1)):=by
 have d:=Lh (rnumber_any w a b t 9223372036854775807 h);obtain⟨v,j⟩:=Nm ((t.number 9223372036854775807).1);obtain⟨n,c⟩:=Nm ((t.number 9223372036854775807).2);rw[<-j,<-c]at d ⊢;clear j c h;go_enter func122,ntmps122;go_wp2_with fail;refine d.out.mono ?_;rintro e o ⟨rfl,k,l⟩;have m:=Lh (bfy k l);clear k l;dsimp only;go_wp2_with fail;go_ret;exact⟨rfl,m.out⟩
def XF(base b xb:Nat)(w:World)(t2 t3:TapeL)(key:List (BitVec 8))(lo hi:Int)(k:Nat)(w':World):Prop:=
 lH base b xb w w' (if k=0 then t2 else t3) ⟨key,lo,if k<=1 then 0 else hi⟩
theorem Ko(w:World)(c b:Nat)(O:TapeL)(h:RdAt c w b O)(hb:c<=w.heap.size):
    Calls prog 71 #[.pointer (some ⟨b,0,none⟩)] w (RdEnd c w b O.window.2 (.agg O.window.1.cells)):=by
  have aa:=h.lt;obtain⟨w0,ad⟩:=Nm (w.alloc (.cells #[.string ⟨#[]⟩,.int .i64 0,.int .i64 0] 34));have ab:Hid (Bw w w0/\w0.heap[w.heap.size]? =some (.cells bF.cells 34 (0,0))):=by
    rw[ad];exact Lh ⟨(Below.refl _ w).alloc (bfx _) _,bg5 w _⟩
  obtain⟨wx,ae⟩:=Nm (w0.alloc (.cells #[.string ⟨#[]⟩,.int .i64 0,.int .i64 0] 34));obtain⟨l,af⟩:=Nm (w0.heap.size);have Aq:Hid (Bw w0 wx/\wx.heap[l]? =some (.cells bF.cells 34 (0,0))):=by
    rw[ae,af];exact Lh ⟨(Below.refl _ w0).alloc (bfx _) _,bg5 w0 _⟩
  have aw:=Lh (rtext_any wx c b O 16 ((h.below ab.out.1).below Aq.out.1));have HH:=Lh (bfy aa hb);clear aa hb h;obtain⟨key,L⟩:=Nm ((O.text 16).1);obtain⟨t1,ag⟩:=Nm ((O.text 16).2);obtain⟨d,ac⟩:=Nm ((t1.number 9223372036854775807).1);obtain⟨t2,ah⟩:=Nm ((t1.number 9223372036854775807).2);obtain⟨n,hn⟩:=Nm ((t2.number 9223372036854775807).1);obtain⟨Q,ai⟩:=Nm ((t2.number 9223372036854775807).2);obtain⟨j,aj⟩:∃x,wrap64 (d+n)=x:=⟨_,rfl⟩;have Ed:=Lh aj;have an:key.length<=1000000:=bgn (by rw[L];exact text16_len O) (by decide)
  have HQ:Hid (∀I,I=TapeL.nK (bf.mk key d j) Q->O.window=(if I.e=0 then bf.mk key d j else bF,I)):=by
    have r1:=number_range t1 9223372036854775807 (by decide)
    have r2:=number_range t2 9223372036854775807 (by decide)
    rw[<-ac]at r1;rw[<-hn]at r2;have e:O.Nz=(bf.mk key d (d+n),Q):=by
      rw[hn,ai,ac,ah,L,ag];rfl
    have e2:O.window=((if (TapeL.nK (bf.mk key d (d+n)) Q).e=0 then bf.mk key d (d+n)else bF,TapeL.nK (bf.mk key d (d+n)) Q):bf × TapeL):=by rw[TapeL.window,e]
    rw[e2];exact Lh (Kr key d n j Q r1.1 r1.2 r2.1 r2.2 aj)
  have YO:Hid (∀s,RdAt c s b t1->Calls prog 122 #[.pointer (some ⟨b,0,none⟩)] s (RdEnd c s b t2 (.int .i64 d))):=Lh (λs h=>by rw[ah,ac];exact Fg s c b t1 h)
  have ax:Hid (∀s,RdAt c s b t2->Calls prog 122 #[.pointer (some ⟨b,0,none⟩)] s (RdEnd c s b Q (.int .i64 n))):=Lh (λs h=>by rw[ai,hn];exact Fg s c b t2 h)
  have HK:=Lh (bfy L ag);have HL:=Lh an;obtain⟨P,hP⟩:=Nm (RdEnd c w b O.window.2 (.agg O.window.1.cells));rw[<-hP];have HP:=Lh hP;clear L ag ac ah hn ai aj an hP;go_enter func71,ntmps71;go_upto_region 1 with fail;rw[<-ad];clear ad;go_upto_region 2 with fail;rw[<-ae,<-af];clear ae;go_wp2_with fail;refine aw.out.mono ?_;rintro e w1 ⟨sa,sc,rfl,R,h1,h2⟩;rw[<-HK.out.1]at R ⊢;rw[<-HK.out.2]at h1;have ay:(convert 43 9 (.slice sa key.length sc)).run prog w1=.ok (Sv key) w1:=run_conv_str w1 sa sc key R.srcP;have S1:Hid (lH c b l w w1 t1 bF):=by
    have g1:w.grownBy w1 (some b):=grown_trans (below_gb ab.out.1) (grown_trans (below_gb Aq.out.1) h2);have az:w.heap.size<w0.heap.size:=(Array.getElem?_eq_some_iff.1 ab.out.2).1;have aA:l<wx.heap.size:=(Array.getElem?_eq_some_iff.1 Aq.out.2).1;have aa:=HH.out.1;have aB:=HH.out.2;exact Lh ⟨h1,g1,(h2.block _ (by omega) (by simp;omega)).trans ((Aq.out.1.block _ az).trans ab.out.2),(h2.block _ aA (by simp;omega)).trans Aq.out.2,by omega,aa,aB⟩
  clear R h1 h2 af;have f1:=S1.out.fro 0;have g1:w1.cell? ⟨l,0,none⟩=_:=S1.out.cell 0 rfl;have ao:(storeCells ⟨l,0,none⟩ [Sv key]).run prog w1=.ok () (w1.setCell ⟨l,0,none⟩ (Sv key)):=by
    rw[run_storeCells_Sv];simp[stored,f1,g1]
  dsimp only;go_wp2_with fail;rw[ao];clear ao f1 g1 ay;obtain⟨w2,ak⟩:=Nm (w1.setCell ⟨l,0,none⟩ (Sv key));rw[<-ak];have S2:Hid (lH c b l w w2 t1 ⟨key,0,0⟩):=by rw[ak];exact Lh (S1.out.set 0 (Sv key) rfl)
  clear ak;go_wp2_with fail;refine(YO.out w2 S2.out.1).mono ?_;rintro e w3 ⟨rfl,h1,h2⟩;have S3:=Lh (S2.out.rd h1 h2);clear h1 h2;have f:=S3.out.fro 1;have g:w3.cell? ⟨l,1,none⟩=_:=S3.out.cell 1 rfl;dsimp only;go_upto_region 4 with fail;obtain⟨w4,hw⟩:=Nm (w3.setCell ⟨l,1,none⟩ (.int .i64 d));rw[<-hw];have S4:Hid (lH c b l w w4 t2 ⟨key,d,0⟩):=by rw[hw];exact Lh (S3.out.set 1 _ rfl)
  clear hw f g;have aC:Hid (XF c b l w t2 Q key d j 0 w4.drew):=Lh (lH.below S4.out (Below.refl _ w4).drew);refine wp_region_seq_frame (by kernel_rfl) [none,none,none,some 0,none,none,some 1] [3,6] (vOfC [.pointer (some ⟨l,1,none⟩),.int .i64 d,.pointer (some ⟨b,0,none⟩),.int .i64 n,.int .i64 j,.pointer (some ⟨l,2,none⟩),undef]) (XF c b l w t2 Q key d j) (λ_ _=>True) (λ_ _ _ _ _ h=>h) (by kernel_rfl) (by kernel_rfl) (by kernel_rfl) aC.out ⟨trivial,trivial,trivial,trivial,trivial,trivial,trivial,trivial⟩ ?_ ?_
  · refine⟨?_,?_,?_,?_,?_,?_,?_,trivial⟩
    · intro k a s D F M K N;have q3:=Ea F 3 l 0;clear F M;go_step;exact N _ _ rfl D trivial
    · intro k a s D F M K N;obtain⟨S,_⟩:=M;have q11:=Pa a 11 l 1 S;have hc:s.cell? ⟨l,1,none⟩=some (.int .i64 d):=lH.cell D 1 rfl;clear F S;go_step;exact N _ _ rfl D trivial
    · intro k a s D F M K N;have q0:=Ea F 0 b 0;clear F M;go_step;exact N _ _ rfl D trivial
    · intro a s D F M K N;obtain⟨S,_⟩:=M;have aD:=Pa a 13 b 0 S;have HS:=Lh (ax.out s D.1);clear F S;go_step;refine HS.out.mono ?_;rintro e w3 ⟨rfl,hR,hg⟩;exact N _ _ rfl (lH.rd D hR hg) trivial
    · intro k a s D F M K N;obtain⟨S,p1,_⟩:=M;have aE:=Pi a 12 d S;have aF:=Pi a 14 n p1;clear F S p1;go_step;exact N _ _ (by rw[Ed.out];rfl) D trivial
    · intro k a s D F M K N;have q3:=Ea F 3 l 0;clear F M;go_step;exact N _ _ rfl D trivial
    · intro a s D F M K N;obtain⟨S,p1,_⟩:=M;have aG:=Pa a 16 l 2 S;have aH:=Pi a 15 j p1;have f:=lH.fro D 2;have gg:s.cell? ⟨l,2,none⟩=some (.int .i64 0):=lH.cell D 2 rfl;clear F S p1;go_step;exact N _ _ rfl (lH.set D 2 _ rfl) trivial
  · intro vs w2 D ap hV
    match vs,ap,hV with
    | [v0,v1,v2,v3,v4,v5,v6],_,hV=>
      clear hV;simp only[putsL,bf7,bf1];simp only[Act.put,bfw,bfu,bfv];have S6:Hid (lH c b l w w2 Q (bf.mk key d j)):=D;clear D;obtain⟨w6,ar⟩:=Nm w2;rw[<-ar]at S6 ⊢;clear ar;obtain⟨r,hr⟩:=Nm ((bf.mk key d j).rightB);have al:Hid (Calls prog 62 #[.agg (bf.mk key d j).cells] w6 (Below0 w6 (.bool r))):=by
        rw[hr];exact Lh (gQ w6 _ HL.out)
      unfold bf.cells at al;have Hr:=Lh hr;clear hr;have d0:w6.cell? ⟨l,0,none⟩=_:=S6.out.cell 0 rfl;have d1:w6.cell? ⟨l,1,none⟩=_:=S6.out.cell 1 rfl;have d2:w6.cell? ⟨l,2,none⟩=_:=S6.out.cell 2 rfl
      cases r with
      | true=>
        go_wp2_with fail;refine al.out.mono ?_;rintro e wr ⟨rfl,U⟩;have m:=Lh (S6.out.below U);clear U d0 d1 d2;dsimp only;obtain⟨I,J⟩:=Nm Q;rw[<-J]at m;have Y:=Lh (HQ.out I (by rw[J,TapeL.nK,<-Hr.out];rfl))
        obtain⟨q,Z⟩:=Nm (I.e);have HE:Hid (Calls prog 74 #[.pointer (some ⟨b,0,none⟩)] wr λe s=>e=.returned (.int .i64 q)/\s=wr):=by
          rw[Z];exact rerr_any wr c b I m.out.1
        clear J;by_cases u:q=0
        · have HF:Hid (∀y,RdAt c y b I->w.grownBy y (some b)->P (.returned (.agg (bf.mk key d j).cells)) y):=by
            refine Lh (λy k1 k2=>?_);rw[HP.out,Y.out,if_pos (by rw[<-Z];exact u)]
            exact⟨rfl,k1,k2⟩
          clear Z;subst u;go_wp2_with fail;refine HE.out.mono ?_;rintro e we ⟨rfl,am⟩;subst we;have d0:wr.cell? ⟨l,0,none⟩=_:=m.out.cell 0 rfl;have d1:wr.cell? ⟨l,1,none⟩=_:=m.out.cell 1 rfl;have d2:wr.cell? ⟨l,2,none⟩=_:=m.out.cell 2 rfl;dsimp only;go_upto_region 9 with fail;refine bg4 ?_
          first
            | (refine bg6 rfl _ _ _ rfl w.heap.size (bf.mk key d j).cells rfl rfl 34 bF.cells m.out.2.2.1 bz rfl (bG _) ?_)
            | (iterate 1 go_step
               refine bg6 rfl _ _ _ rfl w.heap.size (bf.mk key d j).cells rfl rfl 34 bF.cells m.out.2.2.1 bz rfl (bG _) ?_)
            | (iterate 2 go_step
               refine bg6 rfl _ _ _ rfl w.heap.size (bf.mk key d j).cells rfl rfl 34 bF.cells m.out.2.2.1 bz rfl (bG _) ?_)
            | (iterate 3 go_step
               refine bg6 rfl _ _ _ rfl w.heap.size (bf.mk key d j).cells rfl rfl 34 bF.cells m.out.2.2.1 bz rfl (bG _) ?_)
            | (iterate 4 go_step
               refine bg6 rfl _ _ _ rfl w.heap.size (bf.mk key d j).cells rfl rfl 34 bF.cells m.out.2.2.1 bz rfl (bG _) ?_)
            | (iterate 5 go_step
               refine bg6 rfl _ _ _ rfl w.heap.size (bf.mk key d j).cells rfl rfl 34 bF.cells m.out.2.2.1 bz rfl (bG _) ?_)
            | (iterate 6 go_step
               refine bg6 rfl _ _ _ rfl w.heap.size (bf.mk key d j).cells rfl rfl 34 bF.cells m.out.2.2.1 bz rfl (bG _) ?_)
            | (iterate 7 go_step
               refine bg6 rfl _ _ _ rfl w.heap.size (bf.mk key d j).cells rfl rfl 34 bF.cells m.out.2.2.1 bz rfl (bG _) ?_)
            | (iterate 8 go_step
               refine bg6 rfl _ _ _ rfl w.heap.size (bf.mk key d j).cells rfl rfl 34 bF.cells m.out.2.2.1 bz rfl (bG _) ?_)
            | (iterate 9 go_step
               refine bg6 rfl _ _ _ rfl w.heap.size (bf.mk key d j).cells rfl rfl 34 bF.cells m.out.2.2.1 bz rfl (bG _) ?_)
          have E:=Lh (m.out.fin (bf.mk key d j).cells);obtain⟨y,z⟩:=Nm (wr.setRow w.heap.size (bf.mk key d j).cells);rw[<-z]at E ⊢;clear z;go_wp2_with fail;exact bodyPost_ret (v:=.agg (bf.mk key d j).cells) (results_cell_row (p:=2) (ty:=34) rfl _ _ w.heap.size 34 (bf.mk key d j).cells (0,0) _ rfl E.out.1 underlying34 rfl bz) rfl (HF.out _ E.out.2.1 E.out.2.2)
        · have HF:Hid (∀y,RdAt c y b I->w.grownBy y (some b)->P (.returned (.agg bF.cells)) y):=by
            refine Lh (λy k1 k2=>?_);rw[HP.out,Y.out,if_neg (by rw[<-Z];exact u)]
            exact⟨rfl,k1,k2⟩
          have e1:(q !=0)=true:=by simpa using u
          clear Z u;go_wp2_with fail;refine HE.out.mono ?_;rintro e we ⟨rfl,am⟩;subst we;dsimp only;go_upto_region 8 with fail;refine bg4 ?_
          first
            | (refine bg6 rfl _ _ _ rfl w.heap.size bF.cells rfl rfl 34 bF.cells m.out.2.2.1 bz rfl (bG _) ?_)
            | (iterate 1 go_step
               refine bg6 rfl _ _ _ rfl w.heap.size bF.cells rfl rfl 34 bF.cells m.out.2.2.1 bz rfl (bG _) ?_)
            | (iterate 2 go_step
               refine bg6 rfl _ _ _ rfl w.heap.size bF.cells rfl rfl 34 bF.cells m.out.2.2.1 bz rfl (bG _) ?_)
            | (iterate 3 go_step
               refine bg6 rfl _ _ _ rfl w.heap.size bF.cells rfl rfl 34 bF.cells m.out.2.2.1 bz rfl (bG _) ?_)
            | (iterate 4 go_step
               refine bg6 rfl _ _ _ rfl w.heap.size bF.cells rfl rfl 34 bF.cells m.out.2.2.1 bz rfl (bG _) ?_)
            | (iterate 5 go_step
               refine bg6 rfl _ _ _ rfl w.heap.size bF.cells rfl rfl 34 bF.cells m.out.2.2.1 bz rfl (bG _) ?_)
            | (iterate 6 go_step
               refine bg6 rfl _ _ _ rfl w.heap.size bF.cells rfl rfl 34 bF.cells m.out.2.2.1 bz rfl (bG _) ?_)
            | (iterate 7 go_step
               refine bg6 rfl _ _ _ rfl w.heap.size bF.cells rfl rfl 34 bF.cells m.out.2.2.1 bz rfl (bG _) ?_)
            | (iterate 8 go_step
               refine bg6 rfl _ _ _ rfl w.heap.size bF.cells rfl rfl 34 bF.cells m.out.2.2.1 bz rfl (bG _) ?_)
            | (iterate 9 go_step
               refine bg6 rfl _ _ _ rfl w.heap.size bF.cells rfl rfl 34 bF.cells m.out.2.2.1 bz rfl (bG _) ?_)
          have E:=Lh (m.out.fin bF.cells);obtain⟨y,z⟩:=Nm (wr.setRow w.heap.size bF.cells);rw[<-z]at E ⊢;clear z;go_wp2_with fail;exact bodyPost_ret (v:=.agg bF.cells) (results_cell_row (p:=2) (ty:=34) rfl _ _ w.heap.size 34 bF.cells (0,0) _ rfl E.out.1 underlying34 rfl bz) rfl (HF.out _ E.out.2.1 E.out.2.2)
      | false=>
        go_wp2_with fail;refine al.out.mono ?_;rintro e wr ⟨rfl,U⟩;have m:=Lh (S6.out.below U);clear U d0 d1 d2;dsimp only;go_wp2_with fail;refine(rfail_any wr c b Q 11 m.out.1).mono ?_;rintro e wf ⟨rfl,au,av⟩;have o:=Lh (m.out.rd au av);clear au av;dsimp only;obtain⟨I,J⟩:=Nm (Q.fail 11);rw[<-J]at o;have Y:=Lh (HQ.out I (by rw[J,TapeL.nK,<-Hr.out];rfl))
        obtain⟨q,Z⟩:=Nm (I.e);have HE:Hid (Calls prog 74 #[.pointer (some ⟨b,0,none⟩)] wf λe s=>e=.returned (.int .i64 q)/\s=wf):=by
          rw[Z];exact rerr_any wf c b I o.out.1
        clear J;by_cases u:q=0
        · have HF:Hid (∀y,RdAt c y b I->w.grownBy y (some b)->P (.returned (.agg (bf.mk key d j).cells)) y):=by
            refine Lh (λy k1 k2=>?_);rw[HP.out,Y.out,if_pos (by rw[<-Z];exact u)]
            exact⟨rfl,k1,k2⟩
          clear Z;subst u;go_wp2_with fail;refine HE.out.mono ?_;rintro e we ⟨rfl,am⟩;subst we;have d0:wf.cell? ⟨l,0,none⟩=_:=o.out.cell 0 rfl;have d1:wf.cell? ⟨l,1,none⟩=_:=o.out.cell 1 rfl;have d2:wf.cell? ⟨l,2,none⟩=_:=o.out.cell 2 rfl;dsimp only;go_upto_region 9 with fail;refine bg4 ?_
          first
            | (refine bg6 rfl _ _ _ rfl w.heap.size (bf.mk key d j).cells rfl rfl 34 bF.cells o.out.2.2.1 bz rfl (bG _) ?_)
            | (iterate 1 go_step
               refine bg6 rfl _ _ _ rfl w.heap.size (bf.mk key d j).cells rfl rfl 34 bF.cells o.out.2.2.1 bz rfl (bG _) ?_)
            | (iterate 2 go_step
               refine bg6 rfl _ _ _ rfl w.heap.size (bf.mk key d j).cells rfl rfl 34 bF.cells o.out.2.2.1 bz rfl (bG _) ?_)
            | (iterate 3 go_step
               refine bg6 rfl _ _ _ rfl w.heap.size (bf.mk key d j).cells rfl rfl 34 bF.cells o.out.2.2.1 bz rfl (bG _) ?_)
            | (iterate 4 go_step
               refine bg6 rfl _ _ _ rfl w.heap.size (bf.mk key d j).cells rfl rfl 34 bF.cells o.out.2.2.1 bz rfl (bG _) ?_)
            | (iterate 5 go_step
               refine bg6 rfl _ _ _ rfl w.heap.size (bf.mk key d j).cells rfl rfl 34 bF.cells o.out.2.2.1 bz rfl (bG _) ?_)
            | (iterate 6 go_step
               refine bg6 rfl _ _ _ rfl w.heap.size (bf.mk key d j).cells rfl rfl 34 bF.cells o.out.2.2.1 bz rfl (bG _) ?_)
            | (iterate 7 go_step
               refine bg6 rfl _ _ _ rfl w.heap.size (bf.mk key d j).cells rfl rfl 34 bF.cells o.out.2.2.1 bz rfl (bG _) ?_)
            | (iterate 8 go_step
               refine bg6 rfl _ _ _ rfl w.heap.size (bf.mk key d j).cells rfl rfl 34 bF.cells o.out.2.2.1 bz rfl (bG _) ?_)
            | (iterate 9 go_step
               refine bg6 rfl _ _ _ rfl w.heap.size (bf.mk key d j).cells rfl rfl 34 bF.cells o.out.2.2.1 bz rfl (bG _) ?_)
          have E:=Lh (o.out.fin (bf.mk key d j).cells);obtain⟨y,z⟩:=Nm (wf.setRow w.heap.size (bf.mk key d j).cells);rw[<-z]at E ⊢;clear z;go_wp2_with fail;exact bodyPost_ret (v:=.agg (bf.mk key d j).cells) (results_cell_row (p:=2) (ty:=34) rfl _ _ w.heap.size 34 (bf.mk key d j).cells (0,0) _ rfl E.out.1 underlying34 rfl bz) rfl (HF.out _ E.out.2.1 E.out.2.2)
        · have HF:Hid (∀y,RdAt c y b I->w.grownBy y (some b)->P (.returned (.agg bF.cells)) y):=by
            refine Lh (λy k1 k2=>?_);rw[HP.out,Y.out,if_neg (by rw[<-Z];exact u)]
            exact⟨rfl,k1,k2⟩
          have e1:(q !=0)=true:=by simpa using u
          clear Z u;go_wp2_with fail;refine HE.out.mono ?_;rintro e we ⟨rfl,am⟩;subst we;dsimp only;go_upto_region 8 with fail;refine bg4 ?_
          first
            | (refine bg6 rfl _ _ _ rfl w.heap.size bF.cells rfl rfl 34 bF.cells o.out.2.2.1 bz rfl (bG _) ?_)
            | (iterate 1 go_step
               refine bg6 rfl _ _ _ rfl w.heap.size bF.cells rfl rfl 34 bF.cells o.out.2.2.1 bz rfl (bG _) ?_)
            | (iterate 2 go_step
               refine bg6 rfl _ _ _ rfl w.heap.size bF.cells rfl rfl 34 bF.cells o.out.2.2.1 bz rfl (bG _) ?_)
            | (iterate 3 go_step
               refine bg6 rfl _ _ _ rfl w.heap.size bF.cells rfl rfl 34 bF.cells o.out.2.2.1 bz rfl (bG _) ?_)
            | (iterate 4 go_step
               refine bg6 rfl _ _ _ rfl w.heap.size bF.cells rfl rfl 34 bF.cells o.out.2.2.1 bz rfl (bG _) ?_)
            | (iterate 5 go_step
               refine bg6 rfl _ _ _ rfl w.heap.size bF.cells rfl rfl 34 bF.cells o.out.2.2.1 bz rfl (bG _) ?_)
            | (iterate 6 go_step
               refine bg6 rfl _ _ _ rfl w.heap.size bF.cells rfl rfl 34 bF.cells o.out.2.2.1 bz rfl (bG _) ?_)
            | (iterate 7 go_step
               refine bg6 rfl _ _ _ rfl w.heap.size bF.cells rfl rfl 34 bF.cells o.out.2.2.1 bz rfl (bG _) ?_)
            | (iterate 8 go_step
               refine bg6 rfl _ _ _ rfl w.heap.size bF.cells rfl rfl 34 bF.cells o.out.2.2.1 bz rfl (bG _) ?_)
            | (iterate 9 go_step
               refine bg6 rfl _ _ _ rfl w.heap.size bF.cells rfl rfl 34 bF.cells o.out.2.2.1 bz rfl (bG _) ?_)
          have E:=Lh (o.out.fin bF.cells);obtain⟨y,z⟩:=Nm (wf.setRow w.heap.size bF.cells);rw[<-z]at E ⊢;clear z;go_wp2_with fail;exact bodyPost_ret (v:=.agg bF.cells) (results_cell_row (p:=2) (ty:=34) rfl _ _ w.heap.size 34 bF.cells (0,0) _ rfl E.out.1 underlying34 rfl bz) rfl (HF.out _ E.out.2.1 E.out.2.2)
theorem Vf(w:World)(x:bf)(j:x.key.length<=1000000)(k:x.rightB=false):Calls prog 64 #[.agg x.cells] w (Below0 w (Sv [])):=by
 obtain⟨d,a⟩:=Nm (w.alloc (.cells x.cells 34));have h:Hid (Bw w d):=by rw[a];exact(Below.refl _ w).alloc (bfx _) _
 have c:=Lh (gQ d x j);rw[k]at c;clear k j;rw[a]at h c;clear a d;obtain⟨key,n,o⟩:=x;unfold bf.cells at h c ⊢;go_enter func64,ntmps64;go_wp2_with fail;refine c.out.mono ?_;rintro e l ⟨rfl,b⟩;have m:Hid (Bw w l):=Tb h.out b;clear b;dsimp only;go_wp2_with fail;go_ret;exact⟨rfl,m.out⟩
theorem Fh(w:World)(x:bf)(Z:x.rightB=true)(hT:PowTab w):
  Calls prog 64 #[.agg x.cells] w (Below0 w (Sv x.text)):=by
 obtain⟨n1,n2,n3,n4,n5,n6,n7⟩:=bU Z;obtain⟨d,n⟩:=Nm (w.alloc (.cells x.cells 34));have HB:Hid (Bw w d):=by rw[n];exact(Below.refl _ w).alloc (bfx _) _
 have F:Hid (∀b,Bw d b->∀i v,x.cells[i]? =some v->b.cell? ⟨w.heap.size,i,none⟩=some v):=by rw[n];exact Lh (KQ w x)
 have HR:=Lh (gQ d x (bgn n3 (by decide)))
 rw[Z]at HR;clear Z;obtain⟨key,q,r⟩:=x;simp only at n1 n2 n3 n4 n5 n6 n7;have l1:=itoaL_length q (by omega)
 have l2:=itoaL_length r (by omega)
 obtain⟨L,s⟩:=Nm (itoaL q);obtain⟨O,u⟩:=Nm (itoaL r);obtain⟨I,y⟩:=Nm (key++bBlank);obtain⟨E,z⟩:=Nm (I++L);obtain⟨M,D⟩:=Nm (E++kC);obtain⟨N,J⟩:=Nm (M++O);have Q:Hid ((∀b,Bw w b->Calls prog 50 #[.int .i64 q] b (Below0 b (Sv L)))/\(∀b,Bw w b->Calls prog 50 #[.int .i64 r] b (Below0 b (Sv O)))):=by
  rw[s,u];exact⟨λb h=>pU b q (by omega) (by omega) (hT.below h),λb h=>pU b r (by omega) (by omega) (hT.below h)⟩
 rw[<-s]at l1;rw[<-u]at l2;have j:Hid ((∀w,(binOp .add 9 (Sv key) (.string ⟨#[32]⟩)).run prog w=.ok (Sv I) w)/\(∀w,(binOp .add 9 (Sv I) (Sv L)).run prog w=.ok (Sv E) w)/\
   (∀w,(binOp .add 9 (Sv E) (.string ⟨#[46,46]⟩)).run prog w=.ok (Sv M) w)/\(∀w,(binOp .add 9 (Sv M) (Sv O)).run prog w=.ok (Sv N) w)):=by
  have e1:bBlank.length=1:=rfl;have e2:kC.length=2:=rfl;have l4:I.length=key.length+bBlank.length:=by rw[y,bft]
  have l5:E.length=I.length+L.length:=by rw[z,bft]
  have l6:M.length=E.length+kC.length:=by rw[D,bft]
  exact⟨λw=>by rw[y];exact run_add_Sv w key bBlank (by omega),λw=>by rw[z];exact run_add_Sv w _ _ (by omega),λw=>by rw[D];exact run_add_Sv w E kC (by omega),λw=>by rw[J];exact run_add_Sv w _ _ (by omega)⟩
 have o:(bf.mk key q r).text=N:=by rw[J,D,z,y,s,u];rfl
 rw[o];unfold bf.cells at n F ⊢;clear o hT s u y z D J l1 l2 n1 n2 n3 n4 n5 n6 n7;unfold bf.cells at HR;have c0:d.cell? ⟨w.heap.size,0,none⟩=some (Sv key):=F.out d (Below.refl _ d) 0 _ rfl;have c1:d.cell? ⟨w.heap.size,1,none⟩=some (.int .i64 q):=F.out d (Below.refl _ d) 1 _ rfl;have c2:d.cell? ⟨w.heap.size,2,none⟩=some (.int .i64 r):=F.out d (Below.refl _ d) 2 _ rfl;go_enter func64,ntmps64;go_upto_region 1 with fail;rw[<-n];clear n;go_wp2_with fail;refine HR.out.mono ?_;rintro e w4 ⟨rfl,R⟩;have aa:Hid (Bw d w4.drew):=Lh (R.drew);clear R c0 c1 c2;dsimp only;go_upto_region 3 with fail;refine wp_region_seq_frame (by kernel_rfl) (NoF (NoF [none,none,none])) [] (vOfC [.pointer (some ⟨w.heap.size,0,none⟩),Sv key,Sv I,.pointer (some ⟨w.heap.size,1,none⟩),.int .i64 q,Sv L,Sv E,Sv M,.pointer (some ⟨w.heap.size,2,none⟩),.int .i64 r,Sv O,Sv N,Sv N]) (λ_ b=>Bw d b) (λ_ _=>True) (λ_ _ _ _ _ h=>h) (by kernel_rfl) (by kernel_rfl) (by kernel_rfl) aa.out ⟨trivial,trivial,trivial,trivial,trivial,trivial,trivial,trivial,trivial,trivial,trivial,trivial,trivial,trivial⟩ ?_ ?_
 ·refine ⟨?_,?_,?_,?_,?_,?_,?_,?_,?_,?_,?_,?_,?_,trivial⟩<;>intro k a b c S l K m<;>replace S:=Lh S<;>replace l:=Lh l
  ·have q1:=FoA S 1 (.pointer (some ⟨w.heap.size,0,none⟩));go_step;exact m _ _ rfl c trivial
  ·have q6:=Ep a 6 (.pointer (some ⟨w.heap.size,0,none⟩)) l.out.1;have hc:b.cell? ⟨w.heap.size,0,none⟩=some (Sv key):=F.out b c 0 _ rfl;go_step;exact m _ _ rfl c trivial
  ·have q7:=Ep a 7 (Sv key) l.out.1;have p:=j.out.1;go_step;exact m _ _ rfl c trivial
  ·have q1:=FoA S 1 (.pointer (some ⟨w.heap.size,0,none⟩));go_step;exact m _ _ rfl c trivial
  ·have q9:=Ep a 9 (.pointer (some ⟨w.heap.size,1,none⟩)) l.out.1;have hc:b.cell? ⟨w.heap.size,1,none⟩=some (.int .i64 q):=F.out b c 1 _ rfl;go_step;exact m _ _ rfl c trivial
  ·have ab:=Pi a 10 q l.out.1;have HS:=Lh (Q.out.1 b (Tb HB.out c));go_step;refine HS.out.mono ?_;rintro e w3 ⟨rfl,hB⟩;exact m _ _ rfl (Tb c hB) trivial
  ·have q8:=Ep a 8 (Sv I) l.out.1;have q11:=Ep a 11 (Sv L) l.out.2.1;have p:=j.out.2.1;go_step;exact m _ _ rfl c trivial
  ·have ac:=Ep a 12 (Sv E) l.out.1;have p:=j.out.2.2.1;go_step;exact m _ _ rfl c trivial
  ·have q1:=FoA S 1 (.pointer (some ⟨w.heap.size,0,none⟩));go_step;exact m _ _ rfl c trivial
  ·have ad:=Ep a 14 (.pointer (some ⟨w.heap.size,2,none⟩)) l.out.1;have hc:b.cell? ⟨w.heap.size,2,none⟩=some (.int .i64 r):=F.out b c 2 _ rfl;go_step;exact m _ _ rfl c trivial
  ·have ae:=Pi a 15 r l.out.1;have HS:=Lh (Q.out.2 b (Tb HB.out c));go_step;refine HS.out.mono ?_;rintro e w3 ⟨rfl,hB⟩;exact m _ _ rfl (Tb c hB) trivial
  ·have af:=Ep a 13 (Sv M) l.out.1;have ag:=Ep a 16 (Sv O) l.out.2.1;have p:=j.out.2.2.2;go_step;exact m _ _ rfl c trivial
  have ai:=Ep a 17 (Sv N) l.out.1;go_step;exact m _ _ rfl c trivial
 intro vs w2 c U Y
 match vs,U,Y with
 | [v0,v1,v2,v3,v4,v5,v6,v7,v8,v9,v10,v11,v12],_,Y=>
  obtain rfl:v12=Sv N:=Y 12 2 v12 rfl rfl;clear Y;simp only[putsL,bf7,bf1];simp only[Act.put,bfw,bfu,bfv];have HZ:Hid (Bw w w2):=Tb HB.out c;clear c;go_wp2_with fail;go_ret;exact⟨rfl,HZ.out⟩
theorem NH(w:World)(x:bf)(a:x.key.length<=1000000)(b:PowTab w):Calls prog 64 #[.agg x.cells] w (Below0 w (Sv x.told)):=by
 cases hr:x.rightB with
 | false=>
  rw[bf.told,hr];exact Vf w x a hr
 | true=>
  rw[bf.told,hr];exact Fh w x hr b
def PX(w:World)(xb:Nat)(x:bf)(w':World):Prop:=
 Bw w w'/\w'.heap[w.heap.size]? =some (.cells bF.cells 34 (0,0))/\w'.heap[xb]? =some (.cells x.cells 34 (0,0))/\w.heap.size<xb
theorem PX.below {w w' b:World} {c:Nat} {x:bf}(h:PX w c x w')(a:Bw w' b):PX w c x b:=
 ⟨h.1.trans (a.mono h.1.size),(a.block _ (Array.getElem?_eq_some_iff.1 h.2.1).1).trans h.2.1,(a.block _ (Array.getElem?_eq_some_iff.1 h.2.2.1).1).trans h.2.2.1,h.2.2.2⟩
theorem PX.cell {w w':World} {a:Nat} {x:bf}(h:PX w a x w')(i:Nat) {v:Value}(b:x.cells[i]? =some v):w'.cell? ⟨a,i,none⟩=some v:=by
 rw[cell_of_row _ _ _ _ _ _ h.2.2.1];exact b
theorem PX.fro {w w':World} {a:Nat} {x:bf}(h:PX w a x w')(i:Nat):w'.frozen? ⟨a,i,none⟩=false:=frozen_of_row _ _ _ _ _ h.2.2.1
theorem PX.set {w w':World} {a:Nat} {x y:bf}(h:PX w a x w')(i:Nat)(v:Value)(b:y.cells=x.cells.setIfInBounds i v):PX w a y (w'.setCell ⟨a,i,none⟩ v):=by
 obtain⟨c,d,e,j⟩:=h;refine⟨c.trans ⟨rfl,rfl,rfl,by simp[World.setCell],λk l=>heap_setCell_other _ _ _ _ (by show k≠a;omega)⟩,(heap_setCell_other _ _ _ _ (by show w.heap.size≠a;omega)).trans d,?_,j⟩
 rw[b];exact heap_setCell_same _ _ _ _ _ _ e
theorem PX.fin {w w':World} {b:Nat} {x:bf}(h:PX w b x w')(a:Array Value):Bw w (w'.setRow w.heap.size a)/\(w'.setRow w.heap.size a).heap[w.heap.size]? =some (.cells a 34 (0,0)):=
 ⟨h.1.trans ⟨rfl,rfl,rfl,by simp[World.setRow],λk c=>setRow_other _ _ _ _ (by omega)⟩,setRow_heap _ _ _ _ _ _ h.2.1⟩
theorem KA(w:World)(s:List (BitVec 8))(hl:s.length<=900)(hI:PowTab w/\lL w/\yP w):
    Calls prog 114 #[Sv s] w (Below0 w (.tuple #[.agg (parseW s).1.cells,.bool (parseW s).2])):=by
  obtain⟨w0,N⟩:=Nm (w.alloc (.cells #[.string ⟨#[]⟩,.int .i64 0,.int .i64 0] 34));have H0:Hid (Bw w w0/\w0.heap[w.heap.size]? =some (.cells bF.cells 34 (0,0))):=by
    rw[N];exact Lh ⟨(Below.refl _ w).alloc (bfx _) _,bg5 w _⟩
  have O:=Lh (TQ w0 s (by omega) (hI.2.2.below H0.out.1))
  obtain⟨P,hP⟩:=Nm (Below0 w (.tuple #[.agg (parseW s).1.cells,.bool (parseW s).2]));rw[<-hP];have HP:=Lh hP;obtain⟨x,hx⟩:=Nm (zW s);have HX:Hid (parseW s=if x.rightB=true/\x.text=s then (x,true)else (bF,false)):=by
    rw[hx];exact Lh (Lj s)
  obtain⟨c,YW⟩:=Nm ((pM s).2);obtain⟨fw,I⟩:=Nm ((vU c).1);obtain⟨tw,J⟩:=Nm ((vU c).2);obtain⟨z1,ab⟩:=Nm (Xg s);have L:=Jj s;have hd:=SY c;rw[<-YW]at L;rw[<-I,<-J]at hd;have Q:x.key.length<=1000000:=by
    rw[hx];show(pM s).1.length<=_;omega
  have ac:x=⟨x.key,numL fw,numL tw⟩:=by rw[hx,I,J,YW];rfl
  have ad:(pM s).1=x.key:=by rw[hx];rfl
  have am:Hid (∀a,Bw w a->Calls prog 111 #[Sv c,.string ⟨#[46,46]⟩] a λe o=>(∃z,e=.returned (.tuple #[Sv fw,Sv tw,.bool z]))/\∃n,o=a.drewN n):=by
    rw[I,J];exact Lh (λa b=>Ry a c (by omega) (hI.2.2.below b))
  have oI:Hid ((∀a,Bw w a->Calls prog 171 #[Sv fw] a (Below0 a (.int .i64 (numL fw))))/\(∀a,Bw w a->Calls prog 171 #[Sv tw] a (Below0 a (.int .i64 (numL tw))))):=
    Lh ⟨λa b=>zn a fw (by omega) (hI.2.1.below b),λa b=>zn a tw (by omega) (hI.2.1.below b)⟩
  rw[ad,<-YW,<-ab]at O;obtain⟨r,hr⟩:=Nm (x.rightB);have YP:Hid (∀a,Calls prog 62 #[.agg x.cells] a (Below0 a (.bool r))):=by
    rw[hr];exact Lh (λa=>gQ a x Q)
  have Hr:=Lh hr;clear hr;have HT:Hid (r=true->∀a,Bw w a->Calls prog 64 #[.agg x.cells] a (Below0 a (Sv x.text))):=
    Lh (λh a b=>Fh a x (by rw[<-Hr.out,h]) (hI.1.below b))
  have ZC:Hid (∀a,Calls prog 167 #[Sv x.key] a (Below0 a (Sv x.key))):=Lh (λa=>Nw a x.key Q);obtain⟨T,hT⟩:=Nm (x.text);rw[<-hT]at HT;have uJ:=Lh hT;clear hT L hd Q ad hI hl hP hx YW I J ab;obtain⟨key,j,d⟩:=x;simp only[bf.mk.injEq,true_and]at ac;obtain⟨rfl,rfl⟩:=ac;obtain⟨j,ae⟩:=Nm (numL fw);obtain⟨d,af⟩:=Nm (numL tw);rw[<-ae,<-af]at oI HX Hr YP HT uJ;clear ae af;unfold bf.cells at YP HT;simp only at ZC O;go_enter func114,ntmps114;go_upto_region 1 with fail;rw[<-N];clear N;go_wp2_with fail;refine O.out.mono ?_;rintro e w1 ⟨rfl,n,rfl⟩;have R:Hid (Bw w0 (w0.drewN n)):=⟨rfl,rfl,rfl,bfx _,λ_ _=>rfl⟩;obtain⟨wa,Y8⟩:=Nm (w0.drewN n);rw[<-Y8]at R ⊢;clear Y8;have ag:Hid (Bw w wa):=Lh (H0.out.1.trans (R.out.mono H0.out.1.size));dsimp only;go_wp2_with fail;refine(am.out wa ag.out).mono ?_;rintro e w1 ⟨⟨z2,rfl⟩,n2,rfl⟩;have S:Hid (Bw wa (wa.drewN n2)):=⟨rfl,rfl,rfl,bfx _,λ_ _=>rfl⟩;obtain⟨wb,ah⟩:=Nm (wa.drewN n2);rw[<-ah]at S ⊢;clear ah;have ai:Hid (Bw w wb):=Lh (Tb ag.out S.out);dsimp only;go_wp2_with fail;refine(oI.out.1 wb ai.out).mono ?_;rintro e wc ⟨rfl,b⟩;have aj:Hid (Bw w wc):=Lh (Tb ai.out b);have an:=Lh b;clear b;dsimp only
  iterate 6 go_step
  refine(oI.out.2 wc aj.out).mono ?_;rintro e o ⟨rfl,U⟩;obtain⟨m,Y⟩:=Nm (o.heap.size);have H2:Hid (Bw w o/\o.heap[w.heap.size]? =some (.cells bF.cells 34 (0,0))/\w.heap.size<o.heap.size):=by
    have r1:=(R.out.block _ (Array.getElem?_eq_some_iff.1 H0.out.2).1).trans H0.out.2;have r2:=(S.out.block _ (Array.getElem?_eq_some_iff.1 r1).1).trans r1;have r3:=(an.out.block _ (Array.getElem?_eq_some_iff.1 r2).1).trans r2;have r4:=(U.block _ (Array.getElem?_eq_some_iff.1 r3).1).trans r3;exact Lh ⟨Tb aj.out U,r4,(Array.getElem?_eq_some_iff.1 r4).1⟩
  clear U;dsimp only;have Ye:=l9 key j d
  iterate 1 go_step
  refine bV rfl _ _ rfl (bf.mk key j d).cells (by simp only[bgb,bgc,bge];exact Ye) ?_
  clear Ye
  iterate 3 go_step
  refine bg6 rfl _ _ _ rfl o.heap.size (bf.mk key j d).cells rfl rfl 34 bF.cells (bg5 o _) bz rfl (bG _) ?_;obtain⟨w3,K⟩:=Nm ((o.alloc (Obj.cells #[.string ⟨#[]⟩,.int .i64 0,.int .i64 0] 34)).setRow o.heap.size (bf.mk key j d).cells);rw[<-K];have S3:Hid (PX w m (bf.mk key j d) w3):=by
    have ha:Bw o (o.alloc (Obj.cells #[.string ⟨#[]⟩,.int .i64 0,.int .i64 0] 34)):=(Below.refl _ o).alloc (bfx _) _;have ak:Bw o w3:=by
      rw[K];exact ha.trans ⟨rfl,rfl,rfl,by simp[World.setRow],λi d=>setRow_other _ _ _ _ (by omega)⟩
    have h2:=H2.out;refine Lh ⟨h2.1.trans (ak.mono h2.1.size),(ak.block _ h2.2.2).trans h2.2.1,?_,by omega⟩
    rw[K,Y];exact setRow_heap _ _ _ _ _ _ (bg5 o _)
  rw[<-Y];clear K Y;have M:w3.cell? ⟨m,0,none⟩=_:=S3.out.cell 0 rfl;have d1:w3.cell? ⟨m,1,none⟩=_:=S3.out.cell 1 rfl;have d2:w3.cell? ⟨m,2,none⟩=_:=S3.out.cell 2 rfl
  cases r with
  | false=>
    go_wp2_with fail;refine(YP.out _).mono ?_;rintro e w4 ⟨rfl,b⟩;have k:=Lh (S3.out.below b);clear b M d1 d2;have HF:Hid (∀y,Bw w y->P (.returned (.tuple #[.agg bF.cells,.bool false])) y):=by
      refine Lh (λy h=>?_);rw[HP.out,HX.out,if_neg (by rw[<-Hr.out];simp)]
      exact⟨rfl,h⟩
    dsimp only;go_upto_region 5 with fail;refine bg4 ?_
    first
      | (iterate 1 go_step
         refine bg6 rfl _ _ _ rfl w.heap.size (bF).cells rfl rfl 34 bF.cells k.out.2.1 bz rfl (bG _) ?_)
      | (iterate 2 go_step
         refine bg6 rfl _ _ _ rfl w.heap.size (bF).cells rfl rfl 34 bF.cells k.out.2.1 bz rfl (bG _) ?_)
      | (iterate 3 go_step
         refine bg6 rfl _ _ _ rfl w.heap.size (bF).cells rfl rfl 34 bF.cells k.out.2.1 bz rfl (bG _) ?_)
      | (iterate 4 go_step
         refine bg6 rfl _ _ _ rfl w.heap.size (bF).cells rfl rfl 34 bF.cells k.out.2.1 bz rfl (bG _) ?_)
      | (iterate 5 go_step
         refine bg6 rfl _ _ _ rfl w.heap.size (bF).cells rfl rfl 34 bF.cells k.out.2.1 bz rfl (bG _) ?_)
      | (iterate 6 go_step
         refine bg6 rfl _ _ _ rfl w.heap.size (bF).cells rfl rfl 34 bF.cells k.out.2.1 bz rfl (bG _) ?_)
      | (iterate 7 go_step
         refine bg6 rfl _ _ _ rfl w.heap.size (bF).cells rfl rfl 34 bF.cells k.out.2.1 bz rfl (bG _) ?_)
      | (iterate 8 go_step
         refine bg6 rfl _ _ _ rfl w.heap.size (bF).cells rfl rfl 34 bF.cells k.out.2.1 bz rfl (bG _) ?_)
    have F:=Lh (k.out.fin (bF).cells);obtain⟨y,l⟩:=Nm (w4.setRow w.heap.size (bF).cells);rw[<-l]at F ⊢;clear l;go_wp2_with fail;exact bodyPost_ret (v:=.tuple #[.agg (bF).cells,.bool false]) ((bI (p:=2) (u:=3) (ty:=34) rfl _ _ w.heap.size 34 (bF).cells (0,0) _ rfl F.out.2 underlying34 rfl bz).trans rfl) rfl (HF.out _ F.out.1)
  | true=>
    go_wp2_with fail;refine(YP.out _).mono ?_;rintro e w4 ⟨rfl,b⟩;have k:=Lh (S3.out.below b);clear b M d1 d2;have M:w4.cell? ⟨m,0,none⟩=_:=k.out.cell 0 rfl;have d1:w4.cell? ⟨m,1,none⟩=_:=k.out.cell 1 rfl;have d2:w4.cell? ⟨m,2,none⟩=_:=k.out.cell 2 rfl;obtain⟨q,hq⟩:=Nm (decide (T=s));have ao:∀w,(binOp .neq 9 (Sv T) (Sv s)).run prog w=.ok (.bool (!q)) w:=λw=>by rw[hq];exact run_neq_Sv w T s
    have Hq:=Lh hq;clear hq
    cases q with
    | false=>
      have HF:Hid (∀y,Bw w y->P (.returned (.tuple #[.agg bF.cells,.bool false])) y):=by
        refine Lh (λy h=>?_);have Z:¬T=s:=of_decide_eq_false Hq.out.symm;rw[HP.out,HX.out,if_neg (λh'=>Z (uJ.out.trans h'.2))];exact⟨rfl,h⟩
      dsimp only;go_wp2_with fail;refine(HT.out (by trivial) _ k.out.1).mono ?_
      rintro e w5 ⟨rfl,b⟩;have D:=Lh (k.out.below b);clear b M d1 d2;dsimp only;go_upto_region 5 with fail;refine bg4 ?_
      first
        | (iterate 1 go_step
           refine bg6 rfl _ _ _ rfl w.heap.size (bF).cells rfl rfl 34 bF.cells D.out.2.1 bz rfl (bG _) ?_)
        | (iterate 2 go_step
           refine bg6 rfl _ _ _ rfl w.heap.size (bF).cells rfl rfl 34 bF.cells D.out.2.1 bz rfl (bG _) ?_)
        | (iterate 3 go_step
           refine bg6 rfl _ _ _ rfl w.heap.size (bF).cells rfl rfl 34 bF.cells D.out.2.1 bz rfl (bG _) ?_)
        | (iterate 4 go_step
           refine bg6 rfl _ _ _ rfl w.heap.size (bF).cells rfl rfl 34 bF.cells D.out.2.1 bz rfl (bG _) ?_)
        | (iterate 5 go_step
           refine bg6 rfl _ _ _ rfl w.heap.size (bF).cells rfl rfl 34 bF.cells D.out.2.1 bz rfl (bG _) ?_)
        | (iterate 6 go_step
           refine bg6 rfl _ _ _ rfl w.heap.size (bF).cells rfl rfl 34 bF.cells D.out.2.1 bz rfl (bG _) ?_)
        | (iterate 7 go_step
           refine bg6 rfl _ _ _ rfl w.heap.size (bF).cells rfl rfl 34 bF.cells D.out.2.1 bz rfl (bG _) ?_)
        | (iterate 8 go_step
           refine bg6 rfl _ _ _ rfl w.heap.size (bF).cells rfl rfl 34 bF.cells D.out.2.1 bz rfl (bG _) ?_)
      have F:=Lh (D.out.fin (bF).cells);obtain⟨y,l⟩:=Nm (w5.setRow w.heap.size (bF).cells);rw[<-l]at F ⊢;clear l;go_wp2_with fail;exact bodyPost_ret (v:=.tuple #[.agg (bF).cells,.bool false]) ((bI (p:=2) (u:=3) (ty:=34) rfl _ _ w.heap.size 34 (bF).cells (0,0) _ rfl F.out.2 underlying34 rfl bz).trans rfl) rfl (HF.out _ F.out.1)
    | true=>
      have HF:Hid (∀y,Bw w y->P (.returned (.tuple #[.agg (bf.mk key j d).cells,.bool true])) y):=by
        refine Lh (λy h=>?_);have Z:T=s:=bgh Hq.out.symm;rw[HP.out,HX.out,if_pos ⟨Hr.out.symm,uJ.out.symm.trans Z⟩];exact⟨rfl,h⟩
      dsimp only;go_wp2_with fail;refine(HT.out (by trivial) _ k.out.1).mono ?_
      rintro e w5 ⟨rfl,b⟩;have D:=Lh (k.out.below b);clear b M d1 d2;have M:w5.cell? ⟨m,0,none⟩=_:=D.out.cell 0 rfl;dsimp only;go_wp2_with fail;refine(ZC.out w5).mono ?_;rintro e w6 ⟨rfl,b⟩;have S6:=Lh (D.out.below b);clear b M;have f1:=S6.out.fro 0;have g1:w6.cell? ⟨m,0,none⟩=_:=S6.out.cell 0 rfl;have al:(storeCells ⟨m,0,none⟩ [Sv key]).run prog w6=.ok () (w6.setCell ⟨m,0,none⟩ (Sv key)):=by
        rw[run_storeCells_Sv];simp[stored,f1,g1]
      dsimp only;go_wp2_with fail;rw[al];clear al f1 g1;obtain⟨w7,aa⟩:=Nm (w6.setCell ⟨m,0,none⟩ (Sv key));rw[<-aa];have E:Hid (PX w m (bf.mk key j d) w7):=by rw[aa];exact Lh (S6.out.set 0 (Sv key) rfl)
      clear aa;have M:w7.cell? ⟨m,0,none⟩=_:=E.out.cell 0 rfl;have d1:w7.cell? ⟨m,1,none⟩=_:=E.out.cell 1 rfl;have d2:w7.cell? ⟨m,2,none⟩=_:=E.out.cell 2 rfl;go_upto_region 7 with fail;refine bg4 ?_
      first
        | (iterate 1 go_step
           refine bg6 rfl _ _ _ rfl w.heap.size (bf.mk key j d).cells rfl rfl 34 bF.cells E.out.2.1 bz rfl (bG _) ?_)
        | (iterate 2 go_step
           refine bg6 rfl _ _ _ rfl w.heap.size (bf.mk key j d).cells rfl rfl 34 bF.cells E.out.2.1 bz rfl (bG _) ?_)
        | (iterate 3 go_step
           refine bg6 rfl _ _ _ rfl w.heap.size (bf.mk key j d).cells rfl rfl 34 bF.cells E.out.2.1 bz rfl (bG _) ?_)
        | (iterate 4 go_step
           refine bg6 rfl _ _ _ rfl w.heap.size (bf.mk key j d).cells rfl rfl 34 bF.cells E.out.2.1 bz rfl (bG _) ?_)
        | (iterate 5 go_step
           refine bg6 rfl _ _ _ rfl w.heap.size (bf.mk key j d).cells rfl rfl 34 bF.cells E.out.2.1 bz rfl (bG _) ?_)
        | (iterate 6 go_step
           refine bg6 rfl _ _ _ rfl w.heap.size (bf.mk key j d).cells rfl rfl 34 bF.cells E.out.2.1 bz rfl (bG _) ?_)
        | (iterate 7 go_step
           refine bg6 rfl _ _ _ rfl w.heap.size (bf.mk key j d).cells rfl rfl 34 bF.cells E.out.2.1 bz rfl (bG _) ?_)
        | (iterate 8 go_step
           refine bg6 rfl _ _ _ rfl w.heap.size (bf.mk key j d).cells rfl rfl 34 bF.cells E.out.2.1 bz rfl (bG _) ?_)
      have F:=Lh (E.out.fin (bf.mk key j d).cells);obtain⟨y,l⟩:=Nm (w7.setRow w.heap.size (bf.mk key j d).cells);rw[<-l]at F ⊢;clear l;go_wp2_with fail;exact bodyPost_ret (v:=.tuple #[.agg (bf.mk key j d).cells,.bool true]) ((bI (p:=2) (u:=3) (ty:=34) rfl _ _ w.heap.size 34 (bf.mk key j d).cells (0,0) _ rfl F.out.2 underlying34 rfl bz).trans rfl) rfl (HF.out _ F.out.1)
def lC(w:World):Prop:=PowTab w/\lL w/\yP w
theorem lC.below {w w':World}(h:lC w)(a:Bw w w'):lC w':=⟨h.1.below a,h.2.1.below a,h.2.2.below a⟩
theorem RP(w:World)(x:bf)(a:x.key.length<=1000000)(b:lC w):Calls prog 64 #[.agg x.cells] w (Below0 w (Sv x.told)):=NH w x a b.1
theorem NG(w:World)(s:List (BitVec 8))(a:s.length<=900)(b:lC w):Calls prog 114 #[Sv s] w (Below0 w (.tuple #[.agg (parseW s).1.cells,.bool (parseW s).2])):=KA w s a b
end Go.Proofs.YtgfmbkoieacgoaaGreatDoor
set_option maxRecDepth 100000
set_option maxHeartbeats 2000000
namespace Go.Proofs.YtgfmbkoieacgoaaGreatDoor
open Go Go.RowKit Go.Proofs.Tryz
def greatL(l:List ItemL):Nat:=(l.map λx=>10+x.key.length).sum
theorem greatL_next {l:List ItemL} {t:Nat} {x:ItemL}(h:l[t]? =some x):greatL (l.take (t+1))=greatL (l.take t)+(10+x.key.length):=by
 rw[take_next h,greatL,greatL,bgl,List.sum_append];simp
theorem greatL_le(c:Nat):∀l:List ItemL,(∀x∈l,x.key.length<=c)->greatL l<=l.length*(10+c)
 | [],_=>by simp[greatL]
 | x::l,h=>by
  have d:=h x (by simp)
  have a:=greatL_le c l (λy b=>h y (by simp[b]))
  unfold greatL at a ⊢;simp only[bgc,List.sum_cons,bgy,Nat.succ_mul];omega
theorem greatL_mem:∀{l:List ItemL} {x:ItemL},x∈l->10+x.key.length<=greatL l
 | y::l,x,h=>by
  unfold greatL;simp only[bgc,List.sum_cons];rcases List.mem_cons.1 h with rfl | h
  ·omega
  have:=greatL_mem h;unfold greatL at this;omega
theorem greatL_length:∀l:List ItemL,l.length*10<=greatL l
 | []=>by simp[greatL]
 | x::l=>by
  have:=greatL_length l;unfold greatL at this ⊢;simp only[bgc,List.sum_cons,bgy];omega
theorem greatL_take:∀(t:Nat) (l:List ItemL),greatL (l.take t)<=greatL l
 | 0,l=>by simp[greatL]
 | t+1,[]=>by simp[greatL]
 | t+1,x::l=>by
  have:=greatL_take t l;unfold greatL at this ⊢;simp only[List.take_succ_cons,bgc,List.sum_cons];omega
def EG(w:World)(l:List ItemL)(n i:Value)(wr:World):Prop:=∃t:Nat,t<=l.length/\i=.int .i64 (t:Int)/\n=.int .i64 ((greatL (l.take t):Nat):Int)/\Bw w wr
theorem great_wide(w:World)(la:Option Addr)(J:Nat)(l:List ItemL)(y:ItemsAt w la l)(z:greatL l<=1152921504606846976):
  Calls prog 8 #[.slice la l.length J] w (Below0 w (.int .i64 ((greatL l:Nat):Int))):=by
 obtain⟨L,n⟩:=Nm (l.length);have d:=Lh (bfy y (bfy z (bfy n trivial)));rw[<-n];have M:L<=1152921504606846976:=by have:=greatL_length l;omega
 clear y z n;go_enter func8,ntmps8;go_wp2_with fail;go_loopw[3,8] (EG w l) (λ_ i _=>L-(intOf i).toNat)
 case atStart=>exact⟨0,bgi _,rfl,rfl,Br⟩
 case round=>
  obtain⟨t,N,rfl,rfl,h⟩:=hrel;rw[<-d.out.2.2.1]at N;by_cases e:t<L
  ·have O:(0:Int)<=(t:Int)/\(t:Int)<(L:Int):=by omega
   obtain⟨x,pb,po,o,rfl,D,E,d2,d3⟩:=(d.out.1.below h).get (t:=t) (by rw[<-d.out.2.2.1];exact e)
   have p:=bgn (greatL_mem (bf3 o)) d.out.2.1;obtain⟨c,k⟩:=Nm (greatL (l.take t));have Q:c<=1152921504606846976:=by
    rw[k];exact bgn (greatL_take t l) d.out.2.1
   rw[<-k];obtain⟨K,q⟩:=Nm (x.key.length);have R:K<=1152921504606846976:=by omega
   have S:∀w r,(Builtin.len_ #[9] r #[Sv x.key]).run prog w=.ok (.int .i64 (K:Int)) w:=λw r=>by rw[run_len_Sv w r x.key,q]
   obtain⟨m,a⟩:=Nm (wr.alloc (.cells x.cells 32));have j:Bw wr m:=by rw[a];exact(Below.refl _ wr).alloc (bfx _) _
   have b:m.heap[wr.heap.size]? =some (.cells x.cells 32 (0,0)):=by rw[a];exact bg5 wr _
   have U:Hid (EG w l (.int .i64 ((c:Int)+(10+(K:Int)))) (.int .i64 ((t:Int)+1)) m):=by
    refine Lh ⟨t+1,by rw[<-d.out.2.2.1];omega,by go_num,?_,Tb h j⟩
    rw[greatL_next o,<-k,<-q];go_num
   have Y:=Lh e;have s:m.cell? ⟨wr.heap.size,1,none⟩=some (Sv x.key):=by rw[cell_of_row _ _ 1 _ _ _ b];rfl
   unfold ItemL.cells at a;obtain⟨F,key,I,u⟩:=x;simp only at D E d2 d3 s a S;clear h o p k j b q;go_upto_region 5 with fail;rw[<-a];clear a D E d2 d3;go_wp2_with fail;have:=Y.out;exact⟨U.out,by simp[intOf];omega⟩
  obtain rfl:t=L:=by omega
  rw[d.out.2.2.1,bgs];have Z:=Lh h;clear h e;go_wp2_with fail;go_ret;exact⟨rfl,Z.out⟩
theorem great_any(w:World)(la:Option Addr)(a:Nat)(l:List ItemL)(b:ItemsAt w la l)(c:∀x∈l,x.key.length<=1048576)(d:l.length<=1048576):
  Calls prog 8 #[.slice la l.length a] w (Below0 w (.int .i64 ((greatL l:Nat):Int))):=by
 refine great_wide w la a l b ?_;have e:=greatL_le 1048576 l c;have h:l.length*(10+1048576)<=1048576*(10+1048576):=Nat.mul_le_mul_right _ d;omega
end Go.Proofs.YtgfmbkoieacgoaaGreatDoor
set_option maxRecDepth 100000
namespace Go.Proofs.YtgfmbkoieacgoaaGreatDoor
open Go Go.ChangeShapes Go.WideShapes Go.ChangeAt Go.WideMaps Go.WideElems Go.RowKit Go.Proofs.Tryz
/-- A Ip that came in as an argument. -/
theorem MN {H:Type} {enc:TypeId × Value->H} {w W:World} {k:Nat} {v:Value} {d:DataW H} {p:List MemPlace}(n:Value.okWide prog W .any k 23 v)
  (h:DataW.Trod enc prog w 0 (λ_=>true) true 23 v d p):∃x:bu,v=.agg x.cells:=by
 simp only[Value.okWide,underlying23]at n;obtain⟨o,rfl,_⟩:=n;obtain⟨m,j⟩:=open_rec underlying23 (by kernel_rfl) (by kernel_rfl) h
 obtain⟨M,N,O,c0,q,_⟩:=j 0 _ rfl;obtain⟨Q,R,S,c1,r,_⟩:=j 1 _ rfl;obtain⟨U,Y,Z,c2,s,_⟩:=j 2 _ rfl;obtain⟨v3,y3,n3,c3,u,_⟩:=j 3 _ rfl;obtain⟨v4,y4,n4,c4,y,_⟩:=j 4 _ rfl;obtain⟨v5,y5,n5,z,D,_⟩:=j 5 _ rfl;obtain⟨E,rfl,_⟩:=open_int' q;obtain⟨F,rfl,_⟩:=open_int' r;obtain⟨I,rfl,_⟩:=open_int' s;obtain⟨J,rfl,_⟩:=open_int' u;obtain⟨K,rfl,_⟩:=open_int' y;obtain⟨L,rfl,_⟩:=open_int' D;refine⟨⟨E,F,I,J,K,L⟩,?_⟩;obtain⟨l⟩:=o
 match l,(show l.length=6 from m)with
 | [a,b,c,e,f,g],_=>
  cases c0
  cases c1
  cases c2
  cases c3
  cases c4
  cases z
  rfl
theorem QM {W:World} {a:Nat} {v:Value}(h:Value.okWide prog W .any a 5 v):∃n,v=.int .u8 n/\0<=n/\n<=255:=by
 simp only[Value.okWide,underlying5]at h;simp only[Cell.okWide,underlying5]at h
 cases v with
 | int k n=>
  simp only[Cell.ok,underlying5]at h;obtain⟨rfl,d⟩:=h;have b:IntKind.u8.min=0:=rfl;have c:IntKind.u8.max=255:=rfl;simp only[IntKind.has,b,c]at d;exact⟨n,rfl,by omega,by omega⟩
 | _=>simp[Cell.ok,underlying5]at h
theorem Gj {W:World} {d:Nat} {v:Value}(h:Value.okWide prog W .any d 24 v):∃a len b,v=.slice a len b/\len<=b/\(a=none->b=0):=by
 simp only[Value.okWide,underlying24]at h;simp only[Cell.okWide,underlying24]at h
 cases v with
 | slice a len b=>
  cases a with
  | none=>
   cases len with
   | zero=>
    cases b with
    | zero=>exact⟨none,0,0,rfl,bfx _,λ_=>rfl⟩
    | succ c=>simp[Cell.ok,underlying24]at h
   | succ l=>simp[Cell.ok,underlying24]at h
  | some a=>
   simp only[Cell.ok,underlying24]at h;exact⟨_,_,_,rfl,h.1,λe=>by cases e⟩
 | _=>simp[Cell.ok,underlying24]at h
end Go.Proofs.YtgfmbkoieacgoaaGreatDoor
