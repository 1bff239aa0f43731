/-
  23.
-/
import Derived.Test.YtjeeghafachebaaGreatU21
import Derived.Test.YtjeeghafachebaaGreatU22
set_option maxRecDepth 100000
set_option maxHeartbeats 2000000
namespace Go.Proofs.YtjeeghafachebaaGreat
open Go Go.RowKit Go.Proofs.Tryz
def CF(q:bz)(x y:dS):Int:=if q.agg=2∨q.agg=5 then x.a+y.a else if q.agg=3∨q.agg=4 then r9 q.agg x.n x.a y.n y.a else 0
def jg(q:bz)(x y:dS):Bool:=decide (q.agg=7) && !decide (mr (x.u+y.u) (x.v+y.v))
def rC(q:bz)(x y:dS):dS:=
 ⟨x.n+y.n,CF q x y,if q.agg=6 then lT q.k.toNat (x.top++y.top)else [],if q.agg=7/\jg q x y=false then x.u+y.u else 0,if q.agg=7/\jg q x y=false then x.v+y.v else 0⟩
def vU(q:bz)(x y:dS):Int:=if jg q x y=true then 20 else 0
def lD(w:World)(m:dS)(er:Int)(e:Ending)(w':World):Prop:=∃tv z,e=.returned (.tuple #[.agg (bI m.n m.a tv z),.int .i64 er])/\bA w' tv m.top/\dw z m.u m.v/\Bw w w'/\∀a n c,tv=.slice (some a) n c->w.heap.size<=a.block
theorem gm {w:World} {n a:Int} {tv z:Value} {l:List Int} {u v:Int}(h1:bA w tv l)(h2:dw z u v):(bI n a tv z).all (·.oneCell')=true:=kN h1.one h2.1.one
theorem Mf(a b:Int):∃u v,dw (PN a b) u v/\(mr a b->u=a/\v=b)/\(¬mr a b->u=0/\v=0):=by
 unfold PN;by_cases h:mr a b
 ·rw[if_pos h];exact⟨a,b,JU h,λ_=>⟨rfl,rfl⟩,λh'=>absurd h h'⟩
 rw[if_neg h];exact⟨0,0,gL,λh'=>absurd h' h,λ_=>⟨rfl,rfl⟩⟩
theorem lZ(w:World)(n a:Int)(tv z:Value):bW ((w.alloc (Obj.cells dE 53)).setRow w.heap.size (bI n a tv z)) w.heap.size n a tv z/\Bw w ((w.alloc (Obj.cells dE 53)).setRow w.heap.size (bI n a tv z)):=
 ⟨setRow_heap _ _ _ _ _ _ (bg5 w _),((Below.refl _ w).alloc (bfx _) _).trans ⟨rfl,rfl,rfl,by simp[World.setRow],λk hk=>setRow_other _ _ _ _ (by omega)⟩⟩
def jO(w:World)(qb b1 b2 b6 b8:Nat)(Q:bz)(n1 a1:Int)(Sk z1:Value)(n2 a2:Int)(Sq z2:Value)(n a:Int)(tv z:Value)(w':World):Prop:=
 (w.heap.size<=qb/\qb<b8/\b1<b8/\b2<b8/\b6<b8/\w.heap.size<=b6/\w.heap.size<=b8)/\dn w' qb Q/\bW w' b1 n1 a1 Sk z1/\bW w' b2 n2 a2 Sq z2/\bW w' b6 0 0 bS fU/\bW w' b8 n a tv z/\Bw w w'
theorem jO.below {w:World} {qb b1 b2 b6 b8:Nat} {Q:bz} {n1 a1:Int} {Sk z1:Value} {n2 a2:Int} {Sq z2:Value} {n a:Int} {tv z:Value} {w' w'':World}(h:jO w qb b1 b2 b6 b8 Q n1 a1 Sk z1 n2 a2 Sq z2 n a tv z w')(hB:Bw w' w''):jO w qb b1 b2 b6 b8 Q n1 a1 Sk z1 n2 a2 Sq z2 n a tv z w'':=by
 obtain⟨h0,h1,h2,h3,h4,h5,h6⟩:=h;exact⟨h0,h1.below hB,h2.below hB,h3.below hB,h4.below hB,h5.below hB,Tb h6 hB⟩
theorem jO.turn {w:World} {qb b1 b2 b6 b8:Nat} {Q:bz} {n1 a1:Int} {Sk z1:Value} {n2 a2:Int} {Sq z2:Value} {n a:Int} {tv z:Value} {w' w'':World} {n' a':Int} {tv' z':Value}(h:jO w qb b1 b2 b6 b8 Q n1 a1 Sk z1 n2 a2 Sq z2 n a tv z w')(hg:w'.grownBy w'' (some b8))(hr:bW w'' b8 n' a' tv' z'):jO w qb b1 b2 b6 b8 Q n1 a1 Sk z1 n2 a2 Sq z2 n' a' tv' z' w'':=by
 obtain⟨h0,h1,h2,h3,h4,h5,h6⟩:=h;have hq:dn w'' qb Q:=(hg.block qb h1.lt (by simp;omega)).trans h1
 exact⟨h0,hq,h2.grown hg (by simp;omega),h3.grown hg (by simp;omega),h4.grown hg (by simp;omega),hr,h6.trans (bG hg (by omega) h6.size)⟩
theorem bA.grown {w w':World} {v:Value} {l:List Int} {b:Nat}(h:bA w v l)(hg:w.grownBy w' (some b))(hn:∀a n c,v=.slice (some a) n c->l≠[]->a.block≠b):bA w' v l:=by
 obtain⟨a,c,e,hc,h⟩:=h;refine⟨a,c,e,hc,?_⟩;rcases h with h | ⟨b',o,ha,ht,h'⟩
 ·exact .inl h
 refine .inr ⟨b',o,ha,?_,λi x hx=>?_⟩
 ·by_cases hl:l=[]
  ·exact .inl hl
  rcases ht with ht | ht
  ·exact absurd ht hl
  have hlt:=ht.lt;obtain⟨cur,ht⟩:=ht;have hne:b'≠b:=hn ⟨b',o,none⟩ l.length c (by rw[e,ha]) hl
  exact .inr ⟨cur,(hg.block b' hlt (by simpa using hne)).trans ht⟩
 have hlt:=block_lt_of_cell (h' i x hx);have hne:b'≠b:=hn ⟨b',o,none⟩ l.length c (by rw[e,ha]) (λe'=>by rw[e']at hx;simp at hx)
 have hbl:=hg.block b' hlt (by simpa using hne)
 rw[<-h' i x hx];unfold World.cell?;simp only;rw[hbl]
theorem Ck(w:World)(q:bz)(x y:dS)(Sk z1 Sq z2:Value)(h1:bA w Sk x.top)(h2:bA w Sq y.top)(k1:dw z1 x.u x.v)(k2:dw z2 y.u y.v)(hn:x.top.length+y.top.length<=1000)
  (hk:0<=q.k/\q.k<=1000) (hb:(0<=x.n/\x.n<=1073741824)/\(0<=y.n/\y.n<=1073741824)/\(-4398046511104<=x.a/\x.a<=4398046511104)/\(-4398046511104<=y.a/\y.a<=4398046511104)):
  Calls prog 122 #[.agg q.cells,.agg (bI x.n x.a Sk z1),.agg (bI y.n y.a Sq z2)] w (lD w (rC q x y) (vU q x y)):=by
 obtain⟨P,hP⟩:=Nm (lD w (rC q x y) (vU q x y));rw[<-hP];obtain⟨n1,a1,l1,u1,v1⟩:=x;obtain⟨n2,a2,l2,u2,v2⟩:=y;simp only at h1 h2 k1 k2 hn hb ⊢;have H0:=Lh (bfy h1 (bfy h2 (bfy k1 (bfy k2 (bfy hn hk)))));have TI:Hid (∀w' tv z a l u v er,bA w' tv l->dw z u v->Bw w w'->(∀a n c,tv=.slice (some a) n c->w.heap.size<=a.block)->rC q ⟨n1,a1,l1,u1,v1⟩ ⟨n2,a2,l2,u2,v2⟩=⟨n1+n2,a,l,u,v⟩->vU q ⟨n1,a1,l1,u1,v1⟩ ⟨n2,a2,l2,u2,v2⟩=er->P (.returned (.tuple #[.agg #[.int .i64 (n1+n2),.int .i64 a,tv,z],.int .i64 er])) w'):=by
  refine Lh (λw' tv z a l u v er j1 j2 j3 j6 j4 j5=>?_);rw[hP,j4,j5];exact⟨tv,z,rfl,j1,j2,j3,j6⟩
 obtain⟨Q,hQ⟩:=Nm q;have VR:Hid (∀w',Bw w w'->Calls prog 143 #[.agg Q.cells,.agg #[.int .i64 n1,.int .i64 a1,Sk,z1],.agg #[.int .i64 n2,.int .i64 a2,Sq,z2]] w' (λe w''=>∃v,e=.returned v/\bA w'' v (lT q.k.toNat (l1++l2))/\(∀a n c,v=.slice (some a) n c->w'.heap.size<=a.block)/\Bw w' w'')):=by
  rw[hQ];exact Lh (λw' h=>NF w' q n1 a1 Sk z1 l1 n2 a2 Sq z2 l2 (h1.below h) (h2.below h) hn hk)
 have Io:Hid (∀w',Calls prog 142 #[.agg Q.cells,.agg #[.int .i64 n1,.int .i64 a1,Sk,z1],.agg #[.int .i64 n2,.int .i64 a2,Sq,z2]] w' (bE w' (.int .i64 (r9 q.agg n1 a1 n2 a2)))):=by
  rw[hQ];exact Lh (λw'=>Lm w' q n1 a1 Sk z1 n2 a2 Sq z2)
 have Eh:Hid (∀w',Calls prog 144 #[z1,z2] w' (KN w' (u1+u2) (v1+v2))):=Lh (λw'=>PR w' z1 z2 u1 v1 u2 v2 k1 k2);obtain⟨w1,hw1⟩:=Nm ((((w.alloc (.cells q.cells 23)).alloc (.cells (bI n1 a1 Sk z1) 53)).alloc (.cells (bI n2 a2 Sq z2) 53)).alloc (.cells dE 53));obtain⟨qb,Sm⟩:=Nm (w.heap.size);obtain⟨b1,hb1⟩:=Nm (w.heap.size+1);obtain⟨b2,hb2⟩:=Nm (w.heap.size+2);obtain⟨b6,hb6⟩:=Nm (w.heap.size+3);have hs1:(w.alloc (.cells q.cells 23)).heap.size=w.heap.size+1:=bq w _;have hs2:((w.alloc (.cells q.cells 23)).alloc (.cells (bI n1 a1 Sk z1) 53)).heap.size=w.heap.size+2:=by rw[bq,bq]
 have hs3:(((w.alloc (.cells q.cells 23)).alloc (.cells (bI n1 a1 Sk z1) 53)).alloc (.cells (bI n2 a2 Sq z2) 53)).heap.size=w.heap.size+3:=by rw[bq,bq,bq]
 have H1:Hid (dn w1 qb Q/\bW w1 b1 n1 a1 Sk z1/\bW w1 b2 n2 a2 Sq z2/\bW w1 b6 0 0 bS fU/\Bw w w1/\w.heap.size<=b6/\b6<w1.heap.size):=by
  have h:=wm w q n1 a1 Sk z1 n2 a2 Sq z2;have hB:=(Below.refl _ (((w.alloc (.cells q.cells 23)).alloc (.cells (bI n1 a1 Sk z1) 53)).alloc (.cells (bI n2 a2 Sq z2) 53))).alloc (bfx _) (.cells dE 53);rw[<-hw1]at hB;have hz:bW w1 b6 0 0 bS fU:=by rw[hw1,hb6,<-hs3];exact bg5 _ _
  rw[Sm,hb1,hb2,hQ];exact Lh ⟨h.1.below hB,h.2.1.below hB,h.2.2.1.below hB,hz,h.2.2.2.1.trans (hB.mono h.2.2.2.1.size),by omega,hz.lt⟩
 have hbn:=bfy hb.1 (bfy hb.2.1 (bfy hb.2.2.1 hb.2.2.2));clear hP h1 h2 k1 k2 hn hk hb;obtain⟨kind,size,slide,late,agg,k⟩:=q;have Vj:Hid (Q.cells=#[.int .i64 kind,.int .i64 size,.int .i64 slide,.int .i64 late,.int .i64 agg,.int .i64 k]):=Lh (by rw[hQ];rfl)
 unfold bz.cells at hw1 hs1 hs2 hs3 ⊢;unfold bI dE at*;unfold bI at*;simp only[bS,fU]at hw1 hs1 hs2 hs3 TI VR Io;obtain⟨d0,d1,d2,d3,d4,d5⟩:D6 w1 qb kind size slide late agg k:=by
  have h:=H1.out.1.d6;rw[hQ]at h;exact h
 obtain⟨f0,f1,f2,f3⟩:=H1.out.2.1.d4;obtain⟨g0,g1,g2,g3⟩:=H1.out.2.2.1.d4;have OW:0<=n1+n2/\n1+n2<=2147483648:=by omega
 have IW:Hid (Q=⟨kind,size,slide,late,agg,k⟩):=Lh hQ;have Hqb:Hid (w.heap.size<=qb):=Lh (by omega)
 clear hQ;go_enter func122,ntmps122;go_upto_region 1 with(fail);rw[<-hw1,<-hb6,<-hb2,<-hb1,<-Sm];clear hw1 Sm hb1 hb2 hb6 hs1 hs2 hs3;refine bg4 ?_
 iterate 21 go_step
 refine bg6 rfl _ _ _ rfl w1.heap.size (bI (n1+n2) 0 bS fU) rfl rfl 53 dE (bg5 w1 _) bV rfl (kN rfl rfl) ?_;obtain⟨w2,hw2⟩:=Nm ((w1.alloc (Obj.cells #[.int .i64 0,.int .i64 0,.slice none 0 0,.complex .f64 0 0] 53)).setRow w1.heap.size (bI (n1+n2) 0 bS fU));obtain⟨b8,ek⟩:=Nm (w1.heap.size);have H2:Hid (jO w qb b1 b2 b6 b8 Q n1 a1 Sk z1 n2 a2 Sq z2 (n1+n2) 0 (.slice none 0 0) (.complex .f64 0 0) w2):=by
  obtain⟨k1,k2⟩:=lZ w1 (n1+n2) 0 bS fU;obtain⟨j1,j2,j3,j4,j5,j6,j7⟩:=H1.out;rw[hw2,ek];exact Lh ⟨⟨Hqb.out,j1.lt,j2.lt,j3.lt,j4.lt,j6,j5.size⟩,j1.below k2,j2.below k2,j3.below k2,j4.below k2,k1,Tb j5 k2⟩
 rw[<-hw2,<-ek];clear hw2 ek d0 d1 d2 d3 d4 d5 f0 f1 f2 f3 g0 g1 g2 g3 H1 OW;have TF:Hid (dw (.complex .f64 0 0) 0 0):=Lh gL;have HI0:Hid (bA w (.slice none 0 0) []):=Lh (bA.nil _);have iN:Hid (∀a n c,Value.slice none 0 0=.slice (some a) n c->([]:List Int)≠[]->a.block≠b6):=Lh (λ_ _ _ h=>by cases h)
 have iO:Hid (∀a n c,Value.slice none 0 0=.slice (some a) n c->w.heap.size<=a.block):=Lh (λ_ _ _ h=>by cases h)
 obtain⟨d0,d1,d2,d3,d4,d5⟩:D6 w2 qb kind size slide late agg k:=by
  have h:=H2.out.2.1.d6;rw[IW.out]at h;exact h
 obtain⟨f0,f1,f2,f3⟩:=H2.out.2.2.1.d4;obtain⟨g0,g1,g2,g3⟩:=H2.out.2.2.2.1.d4;obtain⟨x0,x1,x2,x3⟩:=H2.out.2.2.2.2.2.1.d4;have WX:=hbn;by_cases h2:agg=2
 ·subst h2;have HI2:Hid (bA w2 (.slice none 0 0) []):=Lh (bA.nil _);have hab: -8796093022208<=a1+a2/\a1+a2<=8796093022208:=by omega
  clear hbn WX;go_upto_region 5 with(fail);refine bg4 ?_
  iterate 18 go_step
  refine bU rfl _ (.tmp 26) (.tmp 25) rfl ⟨b8,1,none⟩ (.int .i64 (a1+a2)) (.int .i64 0) rfl rfl rfl rfl sizeOf3 x1 (bW.qi H2.out.2.2.2.2.2.1 1) ?_;obtain⟨w3,hw⟩:=Nm ((w2).setCell ⟨b8,1,none⟩ (.int .i64 (a1+a2)));have H3:Hid (jO w qb b1 b2 b6 b8 Q n1 a1 Sk z1 n2 a2 Sq z2 (n1+n2) (a1+a2) (.slice none 0 0) (.complex .f64 0 0) w3):=by
   have hg:(w2).grownBy w3 (some b8):=by rw[hw];exact bL _ _ _ _
   exact Lh (H2.out.turn hg (by rw[hw];exact bW.set1 H2.out.2.2.2.2.2.1 (a1+a2)))
  have YX:Hid ((w2).grownBy w3 (some b8)):=by rw[hw];exact Lh (bL _ _ _ _)
  rw[<-hw];clear hw;have HI3:Hid (bA w3 (.slice none 0 0) []):=Lh (bA.nil _);clear d0 d1 d2 d3 d4 d5 f0 f1 f2 f3 g0 g1 g2 g3 x0 x1 x2 x3 hab;obtain⟨y0,y1,y2,y3⟩:=H3.out.2.2.2.2.2.1.d4;go_upto_region 13 with(fail);refine bg4 ?_
  iterate 6 go_step
  refine bg6 rfl _ _ _ rfl b6 (bI (n1+n2) (a1+a2) (.slice none 0 0) (.complex .f64 0 0)) rfl rfl 53 dE H3.out.2.2.2.2.1 bV rfl (gm HI3.out TF.out) ?_;obtain⟨wy,Sy⟩:=Nm (w3.setRow b6 (bI (n1+n2) (a1+a2) (.slice none 0 0) (.complex .f64 0 0)));have HZ:Hid (bW wy b6 (n1+n2) (a1+a2) (.slice none 0 0) (.complex .f64 0 0)/\P (.returned (.tuple #[.agg #[.int .i64 (n1+n2),.int .i64 (a1+a2),(.slice none 0 0),(.complex .f64 0 0)],.int .i64 0])) wy):=by
   have hg:=bC w3 b6 (bI (n1+n2) (a1+a2) (.slice none 0 0) (.complex .f64 0 0));obtain⟨h0,h1,h2,h3,h4,h5,h6⟩:=H3.out;rw[Sy];refine Lh ⟨h4.reset _ _ _ _,TI.out _ (.slice none 0 0) (.complex .f64 0 0) (a1+a2) [] 0 0 0 (HI3.out.grown hg iN.out) TF.out (h6.trans (bG hg (by omega) h6.size)) iO.out ?_ ?_⟩
   ·simp[rC,CF]
   simp[vU,jg]
  rw[<-Sy];clear Sy y0 y1 y2 y3;go_wp2_with(fail);exact bodyPost_ret (v:=.tuple #[.agg (bI (n1+n2) (a1+a2) (.slice none 0 0) (.complex .f64 0 0)),.int .i64 0]) ((bK (p:=6) (u:=7) (ty:=53) rfl _ _ b6 53 (bI (n1+n2) (a1+a2) (.slice none 0 0) (.complex .f64 0 0)) (0,0) _ rfl HZ.out.1 underlying53 rfl bV).trans rfl) rfl HZ.out.2
 have e2:(agg==2)=false:=by simpa using h2
 by_cases h5:agg=5
 ·subst h5;clear h2;have HI2:Hid (bA w2 (.slice none 0 0) []):=Lh (bA.nil _);have hab: -8796093022208<=a1+a2/\a1+a2<=8796093022208:=by omega
  clear hbn WX;go_upto_region 5 with(fail);refine bg4 ?_
  iterate 18 go_step
  refine bU rfl _ (.tmp 26) (.tmp 25) rfl ⟨b8,1,none⟩ (.int .i64 (a1+a2)) (.int .i64 0) rfl rfl rfl rfl sizeOf3 x1 (bW.qi H2.out.2.2.2.2.2.1 1) ?_;obtain⟨w3,hw⟩:=Nm ((w2).setCell ⟨b8,1,none⟩ (.int .i64 (a1+a2)));have H3:Hid (jO w qb b1 b2 b6 b8 Q n1 a1 Sk z1 n2 a2 Sq z2 (n1+n2) (a1+a2) (.slice none 0 0) (.complex .f64 0 0) w3):=by
   have hg:(w2).grownBy w3 (some b8):=by rw[hw];exact bL _ _ _ _
   exact Lh (H2.out.turn hg (by rw[hw];exact bW.set1 H2.out.2.2.2.2.2.1 (a1+a2)))
  have YX:Hid ((w2).grownBy w3 (some b8)):=by rw[hw];exact Lh (bL _ _ _ _)
  rw[<-hw];clear hw;have HI3:Hid (bA w3 (.slice none 0 0) []):=Lh (bA.nil _);clear d0 d1 d2 d3 d4 d5 f0 f1 f2 f3 g0 g1 g2 g3 x0 x1 x2 x3 hab;obtain⟨y0,y1,y2,y3⟩:=H3.out.2.2.2.2.2.1.d4;go_upto_region 13 with(fail);refine bg4 ?_
  iterate 6 go_step
  refine bg6 rfl _ _ _ rfl b6 (bI (n1+n2) (a1+a2) (.slice none 0 0) (.complex .f64 0 0)) rfl rfl 53 dE H3.out.2.2.2.2.1 bV rfl (gm HI3.out TF.out) ?_;obtain⟨wy,Sy⟩:=Nm (w3.setRow b6 (bI (n1+n2) (a1+a2) (.slice none 0 0) (.complex .f64 0 0)));have HZ:Hid (bW wy b6 (n1+n2) (a1+a2) (.slice none 0 0) (.complex .f64 0 0)/\P (.returned (.tuple #[.agg #[.int .i64 (n1+n2),.int .i64 (a1+a2),(.slice none 0 0),(.complex .f64 0 0)],.int .i64 0])) wy):=by
   have hg:=bC w3 b6 (bI (n1+n2) (a1+a2) (.slice none 0 0) (.complex .f64 0 0));obtain⟨h0,h1,h2,h3,h4,h5,h6⟩:=H3.out;rw[Sy];refine Lh ⟨h4.reset _ _ _ _,TI.out _ (.slice none 0 0) (.complex .f64 0 0) (a1+a2) [] 0 0 0 (HI3.out.grown hg iN.out) TF.out (h6.trans (bG hg (by omega) h6.size)) iO.out ?_ ?_⟩
   ·simp[rC,CF]
   simp[vU,jg]
  rw[<-Sy];clear Sy y0 y1 y2 y3;go_wp2_with(fail);exact bodyPost_ret (v:=.tuple #[.agg (bI (n1+n2) (a1+a2) (.slice none 0 0) (.complex .f64 0 0)),.int .i64 0]) ((bK (p:=6) (u:=7) (ty:=53) rfl _ _ b6 53 (bI (n1+n2) (a1+a2) (.slice none 0 0) (.complex .f64 0 0)) (0,0) _ rfl HZ.out.1 underlying53 rfl bV).trans rfl) rfl HZ.out.2
 have e5:(agg==5)=false:=by simpa using h5
 by_cases h3:agg=3
 ·subst h3;clear h2 h5 hbn WX;obtain⟨E,hE⟩:=Nm (r9 3 n1 a1 n2 a2);have HE:=Lh hE;have au:Hid (∀w',Calls prog 142 #[.agg #[.int .i64 kind,.int .i64 size,.int .i64 slide,.int .i64 late,.int .i64 3,.int .i64 k],.agg #[.int .i64 n1,.int .i64 a1,Sk,z1],.agg #[.int .i64 n2,.int .i64 a2,Sq,z2]] w' (bE w' (.int .i64 E))):=by
   have h:=Io.out;rw[Vj.out]at h;rw[hE];exact Lh h
  clear hE;go_upto_region 8 with(fail);refine bg4 ?_
  iterate 9 go_step
  refine wpList_plain rfl λK hK=>?_;go_step;refine(au.out w2).mono ?_;rintro e w3 ⟨rfl,hB⟩;refine hK _ _ ?_;have H3:Hid (jO w qb b1 b2 b6 b8 Q n1 a1 Sk z1 n2 a2 Sq z2 (n1+n2) 0 (.slice none 0 0) (.complex .f64 0 0) w3):=Lh (H2.out.below hB);clear hK hB d0 d1 d2 d3 d4 d5 f0 f1 f2 f3 g0 g1 g2 g3 x0 x1 x2 x3;obtain⟨x0,x1,x2,x3⟩:=H3.out.2.2.2.2.2.1.d4
  iterate 3 go_step
  refine bU rfl _ (.tmp 34) (.tmp 33) rfl ⟨b8,1,none⟩ (.int .i64 E) (.int .i64 0) rfl rfl rfl rfl sizeOf3 x1 (bW.qi H3.out.2.2.2.2.2.1 1) ?_;obtain⟨w4,hw⟩:=Nm ((w3).setCell ⟨b8,1,none⟩ (.int .i64 E));have H4:Hid (jO w qb b1 b2 b6 b8 Q n1 a1 Sk z1 n2 a2 Sq z2 (n1+n2) E (.slice none 0 0) (.complex .f64 0 0) w4):=by
   have hg:(w3).grownBy w4 (some b8):=by rw[hw];exact bL _ _ _ _
   exact Lh (H3.out.turn hg (by rw[hw];exact bW.set1 H3.out.2.2.2.2.2.1 E))
  have YX:Hid ((w3).grownBy w4 (some b8)):=by rw[hw];exact Lh (bL _ _ _ _)
  rw[<-hw];clear hw;have HI4:Hid (bA w4 (.slice none 0 0) []):=Lh (bA.nil _);clear x0 x1 x2 x3;obtain⟨y0,y1,y2,y3⟩:=H4.out.2.2.2.2.2.1.d4;go_upto_region 13 with(fail);refine bg4 ?_
  iterate 6 go_step
  refine bg6 rfl _ _ _ rfl b6 (bI (n1+n2) E (.slice none 0 0) (.complex .f64 0 0)) rfl rfl 53 dE H4.out.2.2.2.2.1 bV rfl (gm HI4.out TF.out) ?_;obtain⟨wy,Sy⟩:=Nm (w4.setRow b6 (bI (n1+n2) E (.slice none 0 0) (.complex .f64 0 0)));have HZ:Hid (bW wy b6 (n1+n2) E (.slice none 0 0) (.complex .f64 0 0)/\P (.returned (.tuple #[.agg #[.int .i64 (n1+n2),.int .i64 E,(.slice none 0 0),(.complex .f64 0 0)],.int .i64 0])) wy):=by
   have hg:=bC w4 b6 (bI (n1+n2) E (.slice none 0 0) (.complex .f64 0 0));obtain⟨h0,h1,h2,h3,h4,h5,h6⟩:=H4.out;rw[Sy];refine Lh ⟨h4.reset _ _ _ _,TI.out _ (.slice none 0 0) (.complex .f64 0 0) E [] 0 0 0 (HI4.out.grown hg iN.out) TF.out (h6.trans (bG hg (by omega) h6.size)) iO.out ?_ ?_⟩
   ·(simp[rC,CF];exact HE.out.symm)
   simp[vU,jg]
  rw[<-Sy];clear Sy y0 y1 y2 y3;go_wp2_with(fail);exact bodyPost_ret (v:=.tuple #[.agg (bI (n1+n2) E (.slice none 0 0) (.complex .f64 0 0)),.int .i64 0]) ((bK (p:=6) (u:=7) (ty:=53) rfl _ _ b6 53 (bI (n1+n2) E (.slice none 0 0) (.complex .f64 0 0)) (0,0) _ rfl HZ.out.1 underlying53 rfl bV).trans rfl) rfl HZ.out.2
 have e3:(agg==3)=false:=by simpa using h3
 by_cases h4:agg=4
 ·subst h4;clear h2 h5 h3 hbn WX;obtain⟨E,hE⟩:=Nm (r9 4 n1 a1 n2 a2);have HE:=Lh hE;have au:Hid (∀w',Calls prog 142 #[.agg #[.int .i64 kind,.int .i64 size,.int .i64 slide,.int .i64 late,.int .i64 4,.int .i64 k],.agg #[.int .i64 n1,.int .i64 a1,Sk,z1],.agg #[.int .i64 n2,.int .i64 a2,Sq,z2]] w' (bE w' (.int .i64 E))):=by
   have h:=Io.out;rw[Vj.out]at h;rw[hE];exact Lh h
  clear hE;go_upto_region 8 with(fail);refine bg4 ?_
  iterate 9 go_step
  refine wpList_plain rfl λK hK=>?_;go_step;refine(au.out w2).mono ?_;rintro e w3 ⟨rfl,hB⟩;refine hK _ _ ?_;have H3:Hid (jO w qb b1 b2 b6 b8 Q n1 a1 Sk z1 n2 a2 Sq z2 (n1+n2) 0 (.slice none 0 0) (.complex .f64 0 0) w3):=Lh (H2.out.below hB);clear hK hB d0 d1 d2 d3 d4 d5 f0 f1 f2 f3 g0 g1 g2 g3 x0 x1 x2 x3;obtain⟨x0,x1,x2,x3⟩:=H3.out.2.2.2.2.2.1.d4
  iterate 3 go_step
  refine bU rfl _ (.tmp 34) (.tmp 33) rfl ⟨b8,1,none⟩ (.int .i64 E) (.int .i64 0) rfl rfl rfl rfl sizeOf3 x1 (bW.qi H3.out.2.2.2.2.2.1 1) ?_;obtain⟨w4,hw⟩:=Nm ((w3).setCell ⟨b8,1,none⟩ (.int .i64 E));have H4:Hid (jO w qb b1 b2 b6 b8 Q n1 a1 Sk z1 n2 a2 Sq z2 (n1+n2) E (.slice none 0 0) (.complex .f64 0 0) w4):=by
   have hg:(w3).grownBy w4 (some b8):=by rw[hw];exact bL _ _ _ _
   exact Lh (H3.out.turn hg (by rw[hw];exact bW.set1 H3.out.2.2.2.2.2.1 E))
  have YX:Hid ((w3).grownBy w4 (some b8)):=by rw[hw];exact Lh (bL _ _ _ _)
  rw[<-hw];clear hw;have HI4:Hid (bA w4 (.slice none 0 0) []):=Lh (bA.nil _);clear x0 x1 x2 x3;obtain⟨y0,y1,y2,y3⟩:=H4.out.2.2.2.2.2.1.d4;go_upto_region 13 with(fail);refine bg4 ?_
  iterate 6 go_step
  refine bg6 rfl _ _ _ rfl b6 (bI (n1+n2) E (.slice none 0 0) (.complex .f64 0 0)) rfl rfl 53 dE H4.out.2.2.2.2.1 bV rfl (gm HI4.out TF.out) ?_;obtain⟨wy,Sy⟩:=Nm (w4.setRow b6 (bI (n1+n2) E (.slice none 0 0) (.complex .f64 0 0)));have HZ:Hid (bW wy b6 (n1+n2) E (.slice none 0 0) (.complex .f64 0 0)/\P (.returned (.tuple #[.agg #[.int .i64 (n1+n2),.int .i64 E,(.slice none 0 0),(.complex .f64 0 0)],.int .i64 0])) wy):=by
   have hg:=bC w4 b6 (bI (n1+n2) E (.slice none 0 0) (.complex .f64 0 0));obtain⟨h0,h1,h2,h3,h4,h5,h6⟩:=H4.out;rw[Sy];refine Lh ⟨h4.reset _ _ _ _,TI.out _ (.slice none 0 0) (.complex .f64 0 0) E [] 0 0 0 (HI4.out.grown hg iN.out) TF.out (h6.trans (bG hg (by omega) h6.size)) iO.out ?_ ?_⟩
   ·(simp[rC,CF];exact HE.out.symm)
   simp[vU,jg]
  rw[<-Sy];clear Sy y0 y1 y2 y3;go_wp2_with(fail);exact bodyPost_ret (v:=.tuple #[.agg (bI (n1+n2) E (.slice none 0 0) (.complex .f64 0 0)),.int .i64 0]) ((bK (p:=6) (u:=7) (ty:=53) rfl _ _ b6 53 (bI (n1+n2) E (.slice none 0 0) (.complex .f64 0 0)) (0,0) _ rfl HZ.out.1 underlying53 rfl bV).trans rfl) rfl HZ.out.2
 have e4:(agg==4)=false:=by simpa using h4
 by_cases h6:agg=6
 ·subst h6;clear h2 h5 h3 h4 hbn WX;have uy:Hid (∀w',Bw w w'->Calls prog 143 #[.agg #[.int .i64 kind,.int .i64 size,.int .i64 slide,.int .i64 late,.int .i64 6,.int .i64 k],.agg #[.int .i64 n1,.int .i64 a1,Sk,z1],.agg #[.int .i64 n2,.int .i64 a2,Sq,z2]] w' (λe w''=>∃v,e=.returned v/\bA w'' v (lT k.toNat (l1++l2))/\(∀a n c,v=.slice (some a) n c->w'.heap.size<=a.block)/\Bw w' w'')):=by
   have h:=VR.out;rw[Vj.out]at h;exact Lh h
  go_upto_region 10 with(fail);refine bg4 ?_
  iterate 9 go_step
  refine wpList_plain rfl λK hK=>?_;go_step;refine(uy.out w2 H2.out.2.2.2.2.2.2).mono ?_;rintro e w3 ⟨v,rfl,hI,hnb,hB⟩;refine hK _ _ ?_;have H3:Hid (jO w qb b1 b2 b6 b8 Q n1 a1 Sk z1 n2 a2 Sq z2 (n1+n2) 0 (.slice none 0 0) (.complex .f64 0 0) w3):=Lh (H2.out.below hB);have HI3:=Lh hI;obtain⟨ta,tc,rfl,_,hIc⟩:=hI;obtain⟨N,hN⟩:=Nm ((lT k.toNat (l1++l2)).length);rw[<-hN]at HI3;rw[<-hN]at hnb;rw[<-hN];have Hnw:Hid (∀a n c,Value.slice ta N tc=.slice (some a) n c->w.heap.size<=a.block):=by
   have hs:=H2.out.2.2.2.2.2.2.size;exact Lh (λa n c e=>by have:=hnb a n c e;omega)
  have uI:Hid ((∀a n c,Value.slice ta N tc=.slice (some a) n c->lT k.toNat (l1++l2)≠[]->a.block≠b8)/\∀a n c,Value.slice ta N tc=.slice (some a) n c->lT k.toNat (l1++l2)≠[]->a.block≠b6):=by
   have l8:=H2.out.2.2.2.2.2.1.lt;have l6:=H2.out.2.2.2.2.1.lt;exact Lh ⟨λa n c e _=>by have:=hnb a n c e;omega,λa n c e _=>by have:=hnb a n c e;omega⟩
  clear hK hB d0 d1 d2 d3 d4 d5 f0 f1 f2 f3 g0 g1 g2 g3 x0 x1 x2 x3 hN hIc hnb;obtain⟨x0,x1,x2,x3⟩:=H3.out.2.2.2.2.2.1.d4
  iterate 3 go_step
  refine bU rfl _ (.tmp 41) (.tmp 40) rfl ⟨b8,2,none⟩ (.slice ta N tc) (.slice none 0 0) rfl rfl rfl rfl sizeOf48 x2 (bW.qi H3.out.2.2.2.2.2.1 2) ?_;obtain⟨w4,hw⟩:=Nm ((w3).setCell ⟨b8,2,none⟩ (.slice ta N tc));have H4:Hid (jO w qb b1 b2 b6 b8 Q n1 a1 Sk z1 n2 a2 Sq z2 (n1+n2) 0 (.slice ta N tc) (.complex .f64 0 0) w4):=by
   have hg:(w3).grownBy w4 (some b8):=by rw[hw];exact bL _ _ _ _
   exact Lh (H3.out.turn hg (by rw[hw];exact bW.set2 H3.out.2.2.2.2.2.1 (.slice ta N tc)))
  have YX:Hid ((w3).grownBy w4 (some b8)):=by rw[hw];exact Lh (bL _ _ _ _)
  rw[<-hw];clear hw;have HI4:Hid (bA w4 (.slice ta N tc) (lT k.toNat (l1++l2))):=by
   exact Lh (HI3.out.grown YX.out uI.out.1)
  clear x0 x1 x2 x3;obtain⟨y0,y1,y2,y3⟩:=H4.out.2.2.2.2.2.1.d4;go_upto_region 13 with(fail);refine bg4 ?_
  iterate 6 go_step
  refine bg6 rfl _ _ _ rfl b6 (bI (n1+n2) 0 (.slice ta N tc) (.complex .f64 0 0)) rfl rfl 53 dE H4.out.2.2.2.2.1 bV rfl (gm HI4.out TF.out) ?_;obtain⟨wy,Sy⟩:=Nm (w4.setRow b6 (bI (n1+n2) 0 (.slice ta N tc) (.complex .f64 0 0)));have HZ:Hid (bW wy b6 (n1+n2) 0 (.slice ta N tc) (.complex .f64 0 0)/\P (.returned (.tuple #[.agg #[.int .i64 (n1+n2),.int .i64 0,(.slice ta N tc),(.complex .f64 0 0)],.int .i64 0])) wy):=by
   have hg:=bC w4 b6 (bI (n1+n2) 0 (.slice ta N tc) (.complex .f64 0 0));obtain⟨h0,h1,h2,h3,h4,h5,h6⟩:=H4.out;rw[Sy];refine Lh ⟨h4.reset _ _ _ _,TI.out _ (.slice ta N tc) (.complex .f64 0 0) 0 (lT k.toNat (l1++l2)) 0 0 0 (HI4.out.grown hg uI.out.2) TF.out (h6.trans (bG hg (by omega) h6.size)) Hnw.out ?_ ?_⟩
   ·simp[rC,CF]
   simp[vU,jg]
  rw[<-Sy];clear Sy y0 y1 y2 y3;go_wp2_with(fail);exact bodyPost_ret (v:=.tuple #[.agg (bI (n1+n2) 0 (.slice ta N tc) (.complex .f64 0 0)),.int .i64 0]) ((bK (p:=6) (u:=7) (ty:=53) rfl _ _ b6 53 (bI (n1+n2) 0 (.slice ta N tc) (.complex .f64 0 0)) (0,0) _ rfl HZ.out.1 underlying53 rfl bV).trans rfl) rfl HZ.out.2
 have e6:(agg==6)=false:=by simpa using h6
 by_cases h7:agg=7
 ·subst h7;clear h2 h5 h3 h4 h6 hbn WX;obtain⟨Zr,OJ⟩:=Nm (PN (u1+u2) (v1+v2));obtain⟨er,her⟩:=Nm (P9 (u1+u2) (v1+v2));have Ij:Hid (Calls prog 144 #[z1,z2] w2 (λe w'=>e=.returned (.tuple #[Zr,.int .i64 er])/\w'=w2)):=by
   have h:=Eh.out w2;unfold KN at h;rw[<-OJ,<-her]at h;exact Lh h
  obtain⟨ru,rv,hW,hW1,hW2⟩:=Mf (u1+u2) (v1+v2);rw[<-OJ]at hW;have XM:=Lh (bfy hW (bfy hW1 (bfy hW2 her)));obtain⟨p,q,hZe,_,_⟩:=hW.1;subst hZe;clear OJ her hW hW1 hW2;go_upto_region 12 with(fail);refine bg4 ?_
  iterate 12 go_step
  refine wpList_plain rfl λK hK=>?_;go_step;refine Ij.out.mono ?_;rintro e w' ⟨rfl,hw'⟩;subst w';refine hK _ _ ?_;clear hK
  iterate 12 go_step
  refine bU rfl _ (.tmp 52) (.tmp 50) rfl ⟨b8,3,none⟩ (.complex .f64 p q) (.complex .f64 0 0) rfl rfl rfl rfl sizeOf51 x3 (bW.qi H2.out.2.2.2.2.2.1 3) ?_;obtain⟨w3,hw⟩:=Nm ((w2).setCell ⟨b8,3,none⟩ (.complex .f64 p q));have H3:Hid (jO w qb b1 b2 b6 b8 Q n1 a1 Sk z1 n2 a2 Sq z2 (n1+n2) 0 (.slice none 0 0) (.complex .f64 p q) w3):=by
   have hg:(w2).grownBy w3 (some b8):=by rw[hw];exact bL _ _ _ _
   exact Lh (H2.out.turn hg (by rw[hw];exact bW.Q4 H2.out.2.2.2.2.2.1 (.complex .f64 p q)))
  have YX:Hid ((w2).grownBy w3 (some b8)):=by rw[hw];exact Lh (bL _ _ _ _)
  rw[<-hw];clear hw;have HI3:Hid (bA w3 (.slice none 0 0) []):=Lh (bA.nil _);have aS:Hid (dw (.complex .f64 p q) ru rv):=Lh XM.out.1;clear d0 d1 d2 d3 d4 d5 f0 f1 f2 f3 g0 g1 g2 g3 x0 x1 x2 x3;have az:Hid (rC ⟨kind,size,slide,late,7,k⟩ ⟨n1,a1,l1,u1,v1⟩ ⟨n2,a2,l2,u2,v2⟩=⟨n1+n2,0,[],ru,rv⟩):=by
   refine Lh ?_;by_cases h:mr (u1+u2) (v1+v2)
   ·obtain⟨rfl,rfl⟩:=XM.out.2.1 h;simp[rC,CF,jg,h]
   obtain⟨rfl,rfl⟩:=XM.out.2.2.1 h;simp[rC,CF,jg,h]
  have aA:Hid (vU ⟨kind,size,slide,late,7,k⟩ ⟨n1,a1,l1,u1,v1⟩ ⟨n2,a2,l2,u2,v2⟩=er):=by
   refine Lh ?_;rw[XM.out.2.2.2,vU,jg,P9];by_cases h:mr (u1+u2) (v1+v2) <;> simp[h]
  obtain⟨y0,y1,y2,y3⟩:=H3.out.2.2.2.2.2.1.d4;go_upto_region 13 with(fail);refine bg4 ?_
  iterate 6 go_step
  refine bg6 rfl _ _ _ rfl b6 (bI (n1+n2) 0 (.slice none 0 0) (.complex .f64 p q)) rfl rfl 53 dE H3.out.2.2.2.2.1 bV rfl (gm HI3.out aS.out) ?_;obtain⟨wy,Sy⟩:=Nm (w3.setRow b6 (bI (n1+n2) 0 (.slice none 0 0) (.complex .f64 p q)));have HZ:Hid (bW wy b6 (n1+n2) 0 (.slice none 0 0) (.complex .f64 p q)/\P (.returned (.tuple #[.agg #[.int .i64 (n1+n2),.int .i64 0,(.slice none 0 0),(.complex .f64 p q)],.int .i64 er])) wy):=by
   have hg:=bC w3 b6 (bI (n1+n2) 0 (.slice none 0 0) (.complex .f64 p q));obtain⟨h0,h1,h2,h3,h4,h5,h6⟩:=H3.out;rw[Sy];refine Lh ⟨h4.reset _ _ _ _,TI.out _ (.slice none 0 0) (.complex .f64 p q) 0 [] ru rv er (HI3.out.grown hg iN.out) aS.out (h6.trans (bG hg (by omega) h6.size)) iO.out ?_ ?_⟩
   ·exact az.out
   exact aA.out
  rw[<-Sy];clear Sy y0 y1 y2 y3;go_wp2_with(fail);exact bodyPost_ret (v:=.tuple #[.agg (bI (n1+n2) 0 (.slice none 0 0) (.complex .f64 p q)),.int .i64 er]) ((bK (p:=6) (u:=7) (ty:=53) rfl _ _ b6 53 (bI (n1+n2) 0 (.slice none 0 0) (.complex .f64 p q)) (0,0) _ rfl HZ.out.1 underlying53 rfl bV).trans rfl) rfl HZ.out.2
 have e7:(agg==7)=false:=by simpa using h7
 have az:Hid (rC ⟨kind,size,slide,late,agg,k⟩ ⟨n1,a1,l1,u1,v1⟩ ⟨n2,a2,l2,u2,v2⟩=⟨n1+n2,0,[],0,0⟩):=by
  refine Lh ?_;simp[rC,CF,h2,h5,h3,h4,h6,h7]
 have aA:Hid (vU ⟨kind,size,slide,late,agg,k⟩ ⟨n1,a1,l1,u1,v1⟩ ⟨n2,a2,l2,u2,v2⟩=0):=Lh (by simp[vU,jg,h7])
 have HI2:Hid (bA w2 (.slice none 0 0) []):=Lh (bA.nil _);clear h2 h5 h3 h4 h6 h7 hbn WX f0 f1 f2 f3 g0 g1 g2 g3 x0 x1 x2 x3;obtain⟨y0,y1,y2,y3⟩:=H2.out.2.2.2.2.2.1.d4;go_upto_region 13 with(fail);refine bg4 ?_
 iterate 6 go_step
 refine bg6 rfl _ _ _ rfl b6 (bI (n1+n2) 0 (.slice none 0 0) (.complex .f64 0 0)) rfl rfl 53 dE H2.out.2.2.2.2.1 bV rfl (gm HI2.out TF.out) ?_;obtain⟨wy,Sy⟩:=Nm (w2.setRow b6 (bI (n1+n2) 0 (.slice none 0 0) (.complex .f64 0 0)));have HZ:Hid (bW wy b6 (n1+n2) 0 (.slice none 0 0) (.complex .f64 0 0)/\P (.returned (.tuple #[.agg #[.int .i64 (n1+n2),.int .i64 0,(.slice none 0 0),(.complex .f64 0 0)],.int .i64 0])) wy):=by
  have hg:=bC w2 b6 (bI (n1+n2) 0 (.slice none 0 0) (.complex .f64 0 0));obtain⟨h0,h1,h2,h3,h4,h5,h6⟩:=H2.out;rw[Sy];refine Lh ⟨h4.reset _ _ _ _,TI.out _ (.slice none 0 0) (.complex .f64 0 0) 0 [] 0 0 0 (HI2.out.grown hg iN.out) TF.out (h6.trans (bG hg (by omega) h6.size)) iO.out ?_ ?_⟩
  ·exact az.out
  exact aA.out
 rw[<-Sy];clear Sy y0 y1 y2 y3;go_wp2_with(fail);exact bodyPost_ret (v:=.tuple #[.agg (bI (n1+n2) 0 (.slice none 0 0) (.complex .f64 0 0)),.int .i64 0]) ((bK (p:=6) (u:=7) (ty:=53) rfl _ _ b6 53 (bI (n1+n2) 0 (.slice none 0 0) (.complex .f64 0 0)) (0,0) _ rfl HZ.out.1 underlying53 rfl bV).trans rfl) rfl HZ.out.2
def rQ(agg v:Int):Int:=if agg=2∨agg=3∨agg=4∨agg=5 then v else 0
def kv(agg v:Int):dS:=⟨1,rQ agg v,if agg=6 then [v]else [],if agg=7 then (kZ v).1 else 0,if agg=7 then (kZ v).2 else 0⟩
def Je(w:World)(m:dS)(e:Ending)(w':World):Prop:=∃tv z,e=.returned (.agg (bI m.n m.a tv z))/\bA w' tv m.top/\dw z m.u m.v/\Bw w w'
def nZ(w:World)(qb b4 b5:Nat)(Q:bz)(a:Int)(tv z:Value)(w':World):Prop:=
 (w.heap.size<=b4/\b4<b5/\qb<b5/\w.heap.size<=b5)/\dn w' qb Q/\bW w' b4 0 0 bS fU/\bW w' b5 1 a tv z/\Bw w w'
theorem nZ.below {w:World} {qb b4 b5:Nat} {Q:bz} {a:Int} {tv z:Value} {w' w'':World}(h:nZ w qb b4 b5 Q a tv z w')(hB:Bw w' w''):nZ w qb b4 b5 Q a tv z w'':=by
 obtain⟨h0,h1,h2,h3,h4⟩:=h;exact⟨h0,h1.below hB,h2.below hB,h3.below hB,Tb h4 hB⟩
theorem nZ.turn {w:World} {qb b4 b5:Nat} {Q:bz} {a:Int} {tv z:Value} {w' w'':World} {a':Int} {tv' z':Value}(h:nZ w qb b4 b5 Q a tv z w')(hg:w'.grownBy w'' (some b5))(hr:bW w'' b5 1 a' tv' z'):nZ w qb b4 b5 Q a' tv' z' w'':=by
 obtain⟨h0,h1,h2,h3,h4⟩:=h;exact⟨h0,(hg.block qb h1.lt (by simp;omega)).trans h1,h2.grown hg (by simp;omega),hr,h4.trans (bG hg (by omega) h4.size)⟩
theorem NE(w:World)(q:bz)(v:Int):Calls prog 123 #[.agg q.cells,.int .i64 v] w (Je w (kv q.agg v)):=by
 obtain⟨P,hP⟩:=Nm (Je w (kv q.agg v));rw[<-hP];have TI:Hid (∀w' tv z a l u v',bA w' tv l->dw z u v'->Bw w w'->kv q.agg v=⟨1,a,l,u,v'⟩->P (.returned (.agg #[.int .i64 1,.int .i64 a,tv,z])) w'):=by
  refine Lh (λw' tv z a l u v' j1 j2 j3 j4=>?_);rw[hP,j4];exact⟨tv,z,rfl,j1,j2,j3⟩
 obtain⟨w1,hw1⟩:=Nm ((w.alloc (.cells q.cells 23)).alloc (.cells dE 53));obtain⟨qb,Sm⟩:=Nm (w.heap.size);obtain⟨b4,hb4⟩:=Nm (w.heap.size+1);have H1:Hid (dn w1 qb q/\bW w1 b4 0 0 bS fU/\Bw w w1/\w.heap.size<=b4):=by
  have h:=qK w q 0 0 bS fU;rw[hw1,Sm,hb4];exact Lh ⟨h.1,h.2.1,h.2.2,by omega⟩
 have hs1:(w.alloc (.cells q.cells 23)).heap.size=w.heap.size+1:=bq w _;obtain⟨Q,hQ⟩:=Nm q;rw[<-hQ]at H1;clear hP;obtain⟨kind,size,slide,late,agg,k⟩:=q;unfold bz.cells at hw1 hs1 ⊢;unfold dE bI at hw1;simp only[bS,fU]at hw1 hs1 TI;have IW:Hid (Q=⟨kind,size,slide,late,agg,k⟩):=Lh hQ;clear hQ;go_enter func123,ntmps123;go_upto_region 1 with(fail);rw[<-hw1,<-hb4,<-Sm];clear hw1 Sm hb4 hs1;refine bg4 ?_
 iterate 6 go_step
 refine bg6 rfl _ _ _ rfl w1.heap.size (bI 1 0 bS fU) rfl rfl 53 dE (bg5 w1 _) bV rfl (kN rfl rfl) ?_;obtain⟨w2,hw2⟩:=Nm ((w1.alloc (Obj.cells #[.int .i64 0,.int .i64 0,.slice none 0 0,.complex .f64 0 0] 53)).setRow w1.heap.size (bI 1 0 bS fU));obtain⟨b5,hb5⟩:=Nm (w1.heap.size);have H2:Hid (nZ w qb b4 b5 Q 0 (.slice none 0 0) (.complex .f64 0 0) w2):=by
  obtain⟨k1,k2⟩:=lZ w1 1 0 bS fU;obtain⟨j1,j2,j3,j4⟩:=H1.out;rw[hw2,hb5];exact Lh ⟨⟨j4,j2.lt,j1.lt,j3.size⟩,j1.below k2,j2.below k2,k1,Tb j3 k2⟩
 rw[<-hw2,<-hb5];clear hw2 hb5 H1;have TF:Hid (dw (.complex .f64 0 0) 0 0):=Lh gL;have YJ:Hid (∀a n c,Value.slice none 0 0=.slice (some a) n c->([]:List Int)≠[]->a.block≠b4):=Lh (λ_ _ _ h=>by cases h)
 obtain⟨d0,d1,d2,d3,d4,d5⟩:D6 w2 qb kind size slide late agg k:=by
  have h:=H2.out.2.1.d6;rw[IW.out]at h;exact h
 obtain⟨x0,x1,x2,x3⟩:=H2.out.2.2.2.1.d4;by_cases h2:agg=2
 ·subst h2;go_upto_region 7 with(fail);refine bg4 ?_
  iterate 6 go_step
  refine bU rfl _ (.tmp 15) (.tmp 14) rfl ⟨b5,1,none⟩ (.int .i64 v) (.int .i64 0) rfl rfl rfl rfl sizeOf3 x1 (bW.qi H2.out.2.2.2.1 1) ?_;obtain⟨w3,hw⟩:=Nm ((w2).setCell ⟨b5,1,none⟩ (.int .i64 v));have H3:Hid (nZ w qb b4 b5 Q v (.slice none 0 0) (.complex .f64 0 0) w3/\(w2).grownBy w3 (some b5)):=by
   have hg:(w2).grownBy w3 (some b5):=by rw[hw];exact bL _ _ _ _
   exact Lh ⟨H2.out.turn hg (by rw[hw];exact bW.set1 H2.out.2.2.2.1 v),hg⟩
  rw[<-hw];clear hw;have HI3:Hid (bA w3 (.slice none 0 0) []):=Lh (bA.nil _);have VL:=Lh H3.out.1;clear d0 d1 d2 d3 d4 d5 x0 x1 x2 x3;obtain⟨y0,y1,y2,y3⟩:=VL.out.2.2.2.1.d4;go_upto_region 12 with(fail);refine bg4 ?_
  iterate 3 go_step
  refine bg6 rfl _ _ _ rfl b4 (bI 1 v (.slice none 0 0) (.complex .f64 0 0)) rfl rfl 53 dE VL.out.2.2.1 bV rfl (gm HI3.out TF.out) ?_;obtain⟨wy,Sy⟩:=Nm (w3.setRow b4 (bI 1 v (.slice none 0 0) (.complex .f64 0 0)));have HZ:Hid (bW wy b4 1 v (.slice none 0 0) (.complex .f64 0 0)/\P (.returned (.agg #[.int .i64 1,.int .i64 v,(.slice none 0 0),(.complex .f64 0 0)])) wy):=by
   have hg:=bC w3 b4 (bI 1 v (.slice none 0 0) (.complex .f64 0 0));obtain⟨h0,h1,h2,h3,h4⟩:=VL.out;rw[Sy];refine Lh ⟨h2.reset _ _ _ _,TI.out _ (.slice none 0 0) (.complex .f64 0 0) v [] 0 0 (HI3.out.grown hg YJ.out) TF.out (h4.trans (bG hg (by omega) h4.size)) ?_⟩
   simp[kv,rQ]
  rw[<-Sy];clear Sy y0 y1 y2 y3;go_wp2_with(fail);exact bodyPost_ret (v:=.agg (bI 1 v (.slice none 0 0) (.complex .f64 0 0))) (results_cell_row (p:=4) (ty:=53) rfl _ _ b4 53 (bI 1 v (.slice none 0 0) (.complex .f64 0 0)) (0,0) _ rfl HZ.out.1 underlying53 rfl bV) rfl HZ.out.2
 have e2:(agg==2)=false:=by simpa using h2
 by_cases h3:agg=3
 ·subst h3;clear h2;go_upto_region 7 with(fail);refine bg4 ?_
  iterate 6 go_step
  refine bU rfl _ (.tmp 15) (.tmp 14) rfl ⟨b5,1,none⟩ (.int .i64 v) (.int .i64 0) rfl rfl rfl rfl sizeOf3 x1 (bW.qi H2.out.2.2.2.1 1) ?_;obtain⟨w3,hw⟩:=Nm ((w2).setCell ⟨b5,1,none⟩ (.int .i64 v));have H3:Hid (nZ w qb b4 b5 Q v (.slice none 0 0) (.complex .f64 0 0) w3/\(w2).grownBy w3 (some b5)):=by
   have hg:(w2).grownBy w3 (some b5):=by rw[hw];exact bL _ _ _ _
   exact Lh ⟨H2.out.turn hg (by rw[hw];exact bW.set1 H2.out.2.2.2.1 v),hg⟩
  rw[<-hw];clear hw;have HI3:Hid (bA w3 (.slice none 0 0) []):=Lh (bA.nil _);have VL:=Lh H3.out.1;clear d0 d1 d2 d3 d4 d5 x0 x1 x2 x3;obtain⟨y0,y1,y2,y3⟩:=VL.out.2.2.2.1.d4;go_upto_region 12 with(fail);refine bg4 ?_
  iterate 3 go_step
  refine bg6 rfl _ _ _ rfl b4 (bI 1 v (.slice none 0 0) (.complex .f64 0 0)) rfl rfl 53 dE VL.out.2.2.1 bV rfl (gm HI3.out TF.out) ?_;obtain⟨wy,Sy⟩:=Nm (w3.setRow b4 (bI 1 v (.slice none 0 0) (.complex .f64 0 0)));have HZ:Hid (bW wy b4 1 v (.slice none 0 0) (.complex .f64 0 0)/\P (.returned (.agg #[.int .i64 1,.int .i64 v,(.slice none 0 0),(.complex .f64 0 0)])) wy):=by
   have hg:=bC w3 b4 (bI 1 v (.slice none 0 0) (.complex .f64 0 0));obtain⟨h0,h1,h2,h3,h4⟩:=VL.out;rw[Sy];refine Lh ⟨h2.reset _ _ _ _,TI.out _ (.slice none 0 0) (.complex .f64 0 0) v [] 0 0 (HI3.out.grown hg YJ.out) TF.out (h4.trans (bG hg (by omega) h4.size)) ?_⟩
   simp[kv,rQ]
  rw[<-Sy];clear Sy y0 y1 y2 y3;go_wp2_with(fail);exact bodyPost_ret (v:=.agg (bI 1 v (.slice none 0 0) (.complex .f64 0 0))) (results_cell_row (p:=4) (ty:=53) rfl _ _ b4 53 (bI 1 v (.slice none 0 0) (.complex .f64 0 0)) (0,0) _ rfl HZ.out.1 underlying53 rfl bV) rfl HZ.out.2
 have e3:(agg==3)=false:=by simpa using h3
 by_cases h4:agg=4
 ·subst h4;clear h2 h3;go_upto_region 7 with(fail);refine bg4 ?_
  iterate 6 go_step
  refine bU rfl _ (.tmp 15) (.tmp 14) rfl ⟨b5,1,none⟩ (.int .i64 v) (.int .i64 0) rfl rfl rfl rfl sizeOf3 x1 (bW.qi H2.out.2.2.2.1 1) ?_;obtain⟨w3,hw⟩:=Nm ((w2).setCell ⟨b5,1,none⟩ (.int .i64 v));have H3:Hid (nZ w qb b4 b5 Q v (.slice none 0 0) (.complex .f64 0 0) w3/\(w2).grownBy w3 (some b5)):=by
   have hg:(w2).grownBy w3 (some b5):=by rw[hw];exact bL _ _ _ _
   exact Lh ⟨H2.out.turn hg (by rw[hw];exact bW.set1 H2.out.2.2.2.1 v),hg⟩
  rw[<-hw];clear hw;have HI3:Hid (bA w3 (.slice none 0 0) []):=Lh (bA.nil _);have VL:=Lh H3.out.1;clear d0 d1 d2 d3 d4 d5 x0 x1 x2 x3;obtain⟨y0,y1,y2,y3⟩:=VL.out.2.2.2.1.d4;go_upto_region 12 with(fail);refine bg4 ?_
  iterate 3 go_step
  refine bg6 rfl _ _ _ rfl b4 (bI 1 v (.slice none 0 0) (.complex .f64 0 0)) rfl rfl 53 dE VL.out.2.2.1 bV rfl (gm HI3.out TF.out) ?_;obtain⟨wy,Sy⟩:=Nm (w3.setRow b4 (bI 1 v (.slice none 0 0) (.complex .f64 0 0)));have HZ:Hid (bW wy b4 1 v (.slice none 0 0) (.complex .f64 0 0)/\P (.returned (.agg #[.int .i64 1,.int .i64 v,(.slice none 0 0),(.complex .f64 0 0)])) wy):=by
   have hg:=bC w3 b4 (bI 1 v (.slice none 0 0) (.complex .f64 0 0));obtain⟨h0,h1,h2,h3,h4⟩:=VL.out;rw[Sy];refine Lh ⟨h2.reset _ _ _ _,TI.out _ (.slice none 0 0) (.complex .f64 0 0) v [] 0 0 (HI3.out.grown hg YJ.out) TF.out (h4.trans (bG hg (by omega) h4.size)) ?_⟩
   simp[kv,rQ]
  rw[<-Sy];clear Sy y0 y1 y2 y3;go_wp2_with(fail);exact bodyPost_ret (v:=.agg (bI 1 v (.slice none 0 0) (.complex .f64 0 0))) (results_cell_row (p:=4) (ty:=53) rfl _ _ b4 53 (bI 1 v (.slice none 0 0) (.complex .f64 0 0)) (0,0) _ rfl HZ.out.1 underlying53 rfl bV) rfl HZ.out.2
 have e4:(agg==4)=false:=by simpa using h4
 by_cases h5:agg=5
 ·subst h5;clear h2 h3 h4;go_upto_region 7 with(fail);refine bg4 ?_
  iterate 6 go_step
  refine bU rfl _ (.tmp 15) (.tmp 14) rfl ⟨b5,1,none⟩ (.int .i64 v) (.int .i64 0) rfl rfl rfl rfl sizeOf3 x1 (bW.qi H2.out.2.2.2.1 1) ?_;obtain⟨w3,hw⟩:=Nm ((w2).setCell ⟨b5,1,none⟩ (.int .i64 v));have H3:Hid (nZ w qb b4 b5 Q v (.slice none 0 0) (.complex .f64 0 0) w3/\(w2).grownBy w3 (some b5)):=by
   have hg:(w2).grownBy w3 (some b5):=by rw[hw];exact bL _ _ _ _
   exact Lh ⟨H2.out.turn hg (by rw[hw];exact bW.set1 H2.out.2.2.2.1 v),hg⟩
  rw[<-hw];clear hw;have HI3:Hid (bA w3 (.slice none 0 0) []):=Lh (bA.nil _);have VL:=Lh H3.out.1;clear d0 d1 d2 d3 d4 d5 x0 x1 x2 x3;obtain⟨y0,y1,y2,y3⟩:=VL.out.2.2.2.1.d4;go_upto_region 12 with(fail);refine bg4 ?_
  iterate 3 go_step
  refine bg6 rfl _ _ _ rfl b4 (bI 1 v (.slice none 0 0) (.complex .f64 0 0)) rfl rfl 53 dE VL.out.2.2.1 bV rfl (gm HI3.out TF.out) ?_;obtain⟨wy,Sy⟩:=Nm (w3.setRow b4 (bI 1 v (.slice none 0 0) (.complex .f64 0 0)));have HZ:Hid (bW wy b4 1 v (.slice none 0 0) (.complex .f64 0 0)/\P (.returned (.agg #[.int .i64 1,.int .i64 v,(.slice none 0 0),(.complex .f64 0 0)])) wy):=by
   have hg:=bC w3 b4 (bI 1 v (.slice none 0 0) (.complex .f64 0 0));obtain⟨h0,h1,h2,h3,h4⟩:=VL.out;rw[Sy];refine Lh ⟨h2.reset _ _ _ _,TI.out _ (.slice none 0 0) (.complex .f64 0 0) v [] 0 0 (HI3.out.grown hg YJ.out) TF.out (h4.trans (bG hg (by omega) h4.size)) ?_⟩
   simp[kv,rQ]
  rw[<-Sy];clear Sy y0 y1 y2 y3;go_wp2_with(fail);exact bodyPost_ret (v:=.agg (bI 1 v (.slice none 0 0) (.complex .f64 0 0))) (results_cell_row (p:=4) (ty:=53) rfl _ _ b4 53 (bI 1 v (.slice none 0 0) (.complex .f64 0 0)) (0,0) _ rfl HZ.out.1 underlying53 rfl bV) rfl HZ.out.2
 have e5:(agg==5)=false:=by simpa using h5
 by_cases h6:agg=6
 ·subst h6;clear h2 h3 h4 h5;go_upto_region 9 with(fail);refine bg4 ?_
  iterate 6 go_step
  obtain⟨w3,hw3⟩:=Nm (w2.alloc (.cells #[.int .i64 v] 3));obtain⟨gb,hgb⟩:=Nm (w2.heap.size);have H3:Hid (nZ w qb b4 b5 Q 0 (.slice none 0 0) (.complex .f64 0 0) w3):=by
   rw[hw3];exact Lh (H2.out.below ((Below.refl _ w2).alloc (bfx _) _))
  have HI3:Hid (bA w3 (.slice (some ⟨gb,0,none⟩) 1 1) [v]/\b5<gb):=by
   refine Lh ⟨⟨_,1,rfl,bfx _,.inr ⟨gb,0,rfl,.inr ⟨_,by rw[hw3,hgb];exact bg5 w2 _⟩,λi x hx=>?_⟩⟩,by rw[hgb];exact H2.out.2.2.2.1.lt⟩
   cases i with
   | zero=>
    simp only[bgp,bf5]at hx;subst hx;rw[hw3,hgb,cell_of_row _ _ _ _ _ _ (bg5 w2 _)];rfl
   | succ i=>simp at hx
  rw[<-hw3,<-hgb];clear hw3 hgb d0 d1 d2 d3 d4 d5 x0 x1 x2 x3;obtain⟨x0,x1,x2,x3⟩:=H3.out.2.2.2.1.d4
  iterate 3 go_step
  refine bU rfl _ (.tmp 20) (.tmp 19) rfl ⟨b5,2,none⟩ (.slice (some ⟨gb,0,none⟩) 1 1) (.slice none 0 0) rfl rfl rfl rfl sizeOf48 x2 (bW.qi H3.out.2.2.2.1 2) ?_;obtain⟨w4,hw⟩:=Nm ((w3).setCell ⟨b5,2,none⟩ (.slice (some ⟨gb,0,none⟩) 1 1));have H4:Hid (nZ w qb b4 b5 Q 0 (.slice (some ⟨gb,0,none⟩) 1 1) (.complex .f64 0 0) w4/\(w3).grownBy w4 (some b5)):=by
   have hg:(w3).grownBy w4 (some b5):=by rw[hw];exact bL _ _ _ _
   exact Lh ⟨H3.out.turn hg (by rw[hw];exact bW.set2 H3.out.2.2.2.1 (.slice (some ⟨gb,0,none⟩) 1 1)),hg⟩
  rw[<-hw];clear hw;have HI4:Hid (bA w4 (.slice (some ⟨gb,0,none⟩) 1 1) [v]):=Lh (HI3.out.1.grown H4.out.2 (λa n c e _=>by injection e with e1;injection e1 with e1;rw[<-e1];have:=HI3.out.2;show gb≠b5;omega))
  have IK:Hid (∀a n c,Value.slice (some ⟨gb,0,none⟩) 1 1=.slice (some a) n c->[v]≠[]->a.block≠b4):=Lh (λa n c e _=>by injection e with e1;injection e1 with e1;rw[<-e1];have:=HI3.out.2;have:=H3.out.1;show gb≠b4;omega)
  have Ii:=Lh H4.out.1;clear x0 x1 x2 x3;obtain⟨y0,y1,y2,y3⟩:=Ii.out.2.2.2.1.d4;go_upto_region 12 with(fail);refine bg4 ?_
  iterate 3 go_step
  refine bg6 rfl _ _ _ rfl b4 (bI 1 0 (.slice (some ⟨gb,0,none⟩) 1 1) (.complex .f64 0 0)) rfl rfl 53 dE Ii.out.2.2.1 bV rfl (gm HI4.out TF.out) ?_;obtain⟨wy,Sy⟩:=Nm (w4.setRow b4 (bI 1 0 (.slice (some ⟨gb,0,none⟩) 1 1) (.complex .f64 0 0)));have HZ:Hid (bW wy b4 1 0 (.slice (some ⟨gb,0,none⟩) 1 1) (.complex .f64 0 0)/\P (.returned (.agg #[.int .i64 1,.int .i64 0,(.slice (some ⟨gb,0,none⟩) 1 1),(.complex .f64 0 0)])) wy):=by
   have hg:=bC w4 b4 (bI 1 0 (.slice (some ⟨gb,0,none⟩) 1 1) (.complex .f64 0 0));obtain⟨h0,h1,h2,h3,h4⟩:=Ii.out;rw[Sy];refine Lh ⟨h2.reset _ _ _ _,TI.out _ (.slice (some ⟨gb,0,none⟩) 1 1) (.complex .f64 0 0) 0 [v] 0 0 (HI4.out.grown hg IK.out) TF.out (h4.trans (bG hg (by omega) h4.size)) ?_⟩
   simp[kv,rQ]
  rw[<-Sy];clear Sy y0 y1 y2 y3;go_wp2_with(fail);exact bodyPost_ret (v:=.agg (bI 1 0 (.slice (some ⟨gb,0,none⟩) 1 1) (.complex .f64 0 0))) (results_cell_row (p:=4) (ty:=53) rfl _ _ b4 53 (bI 1 0 (.slice (some ⟨gb,0,none⟩) 1 1) (.complex .f64 0 0)) (0,0) _ rfl HZ.out.1 underlying53 rfl bV) rfl HZ.out.2
 have e6:(agg==6)=false:=by simpa using h6
 by_cases h7:agg=7
 ·subst h7;clear h2 h3 h4 h5 h6;obtain⟨tu,ZW⟩:=Nm ((kZ v).1);obtain⟨tw,Yx⟩:=Nm ((kZ v).2);have EI:Hid (kv 7 v=⟨1,0,[],tu,tw⟩/\mr tu tw):=by
   refine Lh ⟨by rw[ZW,Yx];simp[kv,rQ],?_⟩
   have:=BX v;unfold mr;omega
  have ak:Hid (Calls prog 145 #[.int .i64 v] w2 (λe w'=>∃z,e=.returned z/\lU z tu tw/\w'=w2)):=by
   rw[ZW,Yx];exact Lh (PL w2 v)
  clear ZW Yx;go_upto_region 11 with(fail);refine bg4 ?_
  iterate 3 go_step
  refine wpList_plain rfl λK hK=>?_;go_step;refine ak.out.mono ?_;rintro e w' ⟨z,rfl,hz,hw'⟩;subst w';refine hK _ _ ?_;have aS:Hid (dw z tu tw):=Lh ⟨hz,EI.out.2⟩;obtain⟨p,q,rfl,_,_⟩:=hz;clear hK
  iterate 3 go_step
  refine bU rfl _ (.tmp 25) (.tmp 24) rfl ⟨b5,3,none⟩ (.complex .f64 p q) (.complex .f64 0 0) rfl rfl rfl rfl sizeOf51 x3 (bW.qi H2.out.2.2.2.1 3) ?_;obtain⟨w3,hw⟩:=Nm ((w2).setCell ⟨b5,3,none⟩ (.complex .f64 p q));have H3:Hid (nZ w qb b4 b5 Q 0 (.slice none 0 0) (.complex .f64 p q) w3/\(w2).grownBy w3 (some b5)):=by
   have hg:(w2).grownBy w3 (some b5):=by rw[hw];exact bL _ _ _ _
   exact Lh ⟨H2.out.turn hg (by rw[hw];exact bW.Q4 H2.out.2.2.2.1 (.complex .f64 p q)),hg⟩
  rw[<-hw];clear hw;have HI3:Hid (bA w3 (.slice none 0 0) []):=Lh (bA.nil _);have VL:=Lh H3.out.1;clear d0 d1 d2 d3 d4 d5 x0 x1 x2 x3;obtain⟨y0,y1,y2,y3⟩:=VL.out.2.2.2.1.d4;go_upto_region 12 with(fail);refine bg4 ?_
  iterate 3 go_step
  refine bg6 rfl _ _ _ rfl b4 (bI 1 0 (.slice none 0 0) (.complex .f64 p q)) rfl rfl 53 dE VL.out.2.2.1 bV rfl (gm HI3.out aS.out) ?_;obtain⟨wy,Sy⟩:=Nm (w3.setRow b4 (bI 1 0 (.slice none 0 0) (.complex .f64 p q)));have HZ:Hid (bW wy b4 1 0 (.slice none 0 0) (.complex .f64 p q)/\P (.returned (.agg #[.int .i64 1,.int .i64 0,(.slice none 0 0),(.complex .f64 p q)])) wy):=by
   have hg:=bC w3 b4 (bI 1 0 (.slice none 0 0) (.complex .f64 p q));obtain⟨h0,h1,h2,h3,h4⟩:=VL.out;rw[Sy];refine Lh ⟨h2.reset _ _ _ _,TI.out _ (.slice none 0 0) (.complex .f64 p q) 0 [] tu tw (HI3.out.grown hg YJ.out) aS.out (h4.trans (bG hg (by omega) h4.size)) ?_⟩
   exact EI.out.1
  rw[<-Sy];clear Sy y0 y1 y2 y3;go_wp2_with(fail);exact bodyPost_ret (v:=.agg (bI 1 0 (.slice none 0 0) (.complex .f64 p q))) (results_cell_row (p:=4) (ty:=53) rfl _ _ b4 53 (bI 1 0 (.slice none 0 0) (.complex .f64 p q)) (0,0) _ rfl HZ.out.1 underlying53 rfl bV) rfl HZ.out.2
 have e7:(agg==7)=false:=by simpa using h7
 have TE:Hid (kv agg v=⟨1,0,[],0,0⟩):=Lh (by simp[kv,rQ,h2,h3,h4,h5,h6,h7])
 have HI2:Hid (bA w2 (.slice none 0 0) []):=Lh (bA.nil _);clear h2 h3 h4 h5 h6 h7 x0 x1 x2 x3;obtain⟨y0,y1,y2,y3⟩:=H2.out.2.2.2.1.d4;go_upto_region 12 with(fail);refine bg4 ?_
 iterate 3 go_step
 refine bg6 rfl _ _ _ rfl b4 (bI 1 0 (.slice none 0 0) (.complex .f64 0 0)) rfl rfl 53 dE H2.out.2.2.1 bV rfl (gm HI2.out TF.out) ?_;obtain⟨wy,Sy⟩:=Nm (w2.setRow b4 (bI 1 0 (.slice none 0 0) (.complex .f64 0 0)));have HZ:Hid (bW wy b4 1 0 (.slice none 0 0) (.complex .f64 0 0)/\P (.returned (.agg #[.int .i64 1,.int .i64 0,(.slice none 0 0),(.complex .f64 0 0)])) wy):=by
  have hg:=bC w2 b4 (bI 1 0 (.slice none 0 0) (.complex .f64 0 0));obtain⟨h0,h1,h2,h3,h4⟩:=H2.out;rw[Sy];refine Lh ⟨h2.reset _ _ _ _,TI.out _ (.slice none 0 0) (.complex .f64 0 0) 0 [] 0 0 (HI2.out.grown hg YJ.out) TF.out (h4.trans (bG hg (by omega) h4.size)) ?_⟩
  exact TE.out
 rw[<-Sy];clear Sy y0 y1 y2 y3;go_wp2_with(fail);exact bodyPost_ret (v:=.agg (bI 1 0 (.slice none 0 0) (.complex .f64 0 0))) (results_cell_row (p:=4) (ty:=53) rfl _ _ b4 53 (bI 1 0 (.slice none 0 0) (.complex .f64 0 0)) (0,0) _ rfl HZ.out.1 underlying53 rfl bV) rfl HZ.out.2
def dA(q:bz)(x y:dS):dS × Int:=
 if x.bB q=true/\y.bB q=true then (if jg q x y=false/\(rC q x y).bB q=true then (rC q x y,0)else (dP,20))else (dP,2)
theorem fM {q:bz} {x:dS}(h:x.bB q=true):q.bB=true/\(0<=x.n/\x.n<=1073741824)/\(-4398046511104<=x.a/\x.a<=4398046511104)/\x.top.length<=8/\(0<=q.k/\q.k<=8):=by
 rw[wW]at h;simp only[bf8,bf0]at h;obtain⟨h1,h2,h3,h4,h5,h6⟩:=h;obtain⟨_,_,_,_,_,ha,hk,hk0⟩:=gU h1;have hkb:0<=q.k/\q.k<=8:=by
  by_cases h:q.agg=6
  ·have:=hk h;omega
  have:=hk0 h;omega
 have hm:=wR q.agg;refine⟨h1,h2,?_,?_,hkb⟩
 ·unfold vv at h3
  split at h3 <;> omega
 unfold BV at h4
 split at h4 <;> omega
def Cg(w:World)(qb b1 b2 b6:Nat)(Q:bz)(n1 a1:Int)(Sk z1:Value)(n2 a2:Int)(Sq z2:Value)(w':World):Prop:=
 w.heap.size<=b6/\dn w' qb Q/\bW w' b1 n1 a1 Sk z1/\bW w' b2 n2 a2 Sq z2/\bW w' b6 0 0 bS fU/\Bw w w'
theorem Cg.below {w:World} {qb b1 b2 b6:Nat} {Q:bz} {n1 a1:Int} {Sk z1:Value} {n2 a2:Int} {Sq z2:Value} {w' w'':World}(h:Cg w qb b1 b2 b6 Q n1 a1 Sk z1 n2 a2 Sq z2 w')(hB:Bw w' w''):Cg w qb b1 b2 b6 Q n1 a1 Sk z1 n2 a2 Sq z2 w'':=by
 obtain⟨h0,h1,h2,h3,h4,h5⟩:=h;exact⟨h0,h1.below hB,h2.below hB,h3.below hB,h4.below hB,Tb h5 hB⟩
theorem zG(w:World)(q:bz)(x y:dS)(Sk z1 Sq z2:Value)(h1:bA w Sk x.top)(h2:bA w Sq y.top)(k1:dw z1 x.u x.v)(k2:dw z2 y.u y.v)(hn1:x.top.length<=1000000)(hn2:y.top.length<=1000000):
  Calls prog 99 #[.agg q.cells,.agg (bI x.n x.a Sk z1),.agg (bI y.n y.a Sq z2)] w (lD w (dA q x y).1 (dA q x y).2):=by
 obtain⟨P,hP⟩:=Nm (lD w (dA q x y).1 (dA q x y).2);rw[<-hP];obtain⟨r1,hr1⟩:=Nm (x.bB q);obtain⟨r2,hr2⟩:=Nm (y.bB q);obtain⟨m,hm⟩:=Nm (rC q x y);obtain⟨er,her⟩:=Nm (vU q x y);obtain⟨r3,hr3⟩:=Nm (m.bB q);have Xm:Hid (∀w' aX,Bw w w'->dA q x y=(dP,aX)->P (.returned (.tuple #[.agg #[.int .i64 0,.int .i64 0,.slice none 0 0,.complex .f64 0 0],.int .i64 aX])) w'):=by
  refine Lh (λw' aX hB hq=>?_);rw[hP,hq];exact⟨_,_,rfl,bA.nil _,gL,hB,λ_ _ _ h=>by cases h⟩
 have Va:Hid (∀w' tv z,bA w' tv m.top->dw z m.u m.v->Bw w w'->(∀a n c,tv=.slice (some a) n c->w.heap.size<=a.block)->dA q x y=(m,0)->P (.returned (.tuple #[.agg #[.int .i64 m.n,.int .i64 m.a,tv,z],.int .i64 0])) w'):=by
  refine Lh (λw' tv z j1 j2 j3 j6 hq=>?_);rw[hP,hq];exact⟨tv,z,rfl,j1,j2,j3,j6⟩
 have TE:Hid (dA q x y=if r1=true/\r2=true then (if er=0/\r3=true then (m,0)else (dP,20))else (dP,2)):=by
  rw[dA,<-hr1,<-hr2,<-hm,<-hr3,her,vU];refine Lh ?_;cases jg q x y <;> simp
 obtain⟨Q,hQ⟩:=Nm q;have VO:Hid (∀w',Bw w w'->Calls prog 32 #[.agg Q.cells,.agg #[.int .i64 x.n,.int .i64 x.a,Sk,z1]] w' (bE w' (.bool r1))):=by
  rw[hr1,hQ];exact Lh (λw' h=>nk w' q x Sk z1 (h1.below h) k1 hn1)
 have SH:Hid (∀w',Bw w w'->Calls prog 32 #[.agg Q.cells,.agg #[.int .i64 y.n,.int .i64 y.a,Sq,z2]] w' (bE w' (.bool r2))):=by
  rw[hr2,hQ];exact Lh (λw' h=>nk w' q y Sq z2 (h2.below h) k2 hn2)
 have Ve:Hid (r1=true->r2=true->∀w',Bw w w'->Calls prog 122 #[.agg Q.cells,.agg #[.int .i64 x.n,.int .i64 x.a,Sk,z1],.agg #[.int .i64 y.n,.int .i64 y.a,Sq,z2]] w' (lD w' m er)):=by
  rw[hm,her,hQ];refine Lh (λe1 e2 w' h=>?_);obtain⟨_,f2,f3,f4,f5⟩:=fM (hr1.symm.trans e1);obtain⟨_,g2,g3,g4,_⟩:=fM (hr2.symm.trans e2);exact Ck w' q x y Sk z1 Sq z2 (h1.below h) (h2.below h) k1 k2 (by omega) (by omega) ⟨f2,g2,f3,g3⟩
 have YG:Hid (r1=true->r2=true->∀w' tv z,bA w' tv m.top->dw z m.u m.v->Calls prog 32 #[.agg Q.cells,.agg #[.int .i64 m.n,.int .i64 m.a,tv,z]] w' (bE w' (.bool r3))):=by
  rw[hr3,hQ];refine Lh (λe1 e2 w' tv z j1 j2=>nk w' q m tv z j1 j2 ?_);obtain⟨_,_,_,f4,f5⟩:=fM (hr1.symm.trans e1);obtain⟨_,_,_,g4,_⟩:=fM (hr2.symm.trans e2);rw[hm,rC];simp only
  split
  ·rw[BU];omega
  simp
 have Her:Hid (er=0∨er=20):=by
  rw[her,vU]
  split
  ·exact Lh (.inr rfl)
  exact Lh (.inl rfl)
 obtain⟨n1,a1,l1,u1,v1⟩:=x;obtain⟨n2,a2,l2,u2,v2⟩:=y;simp only at VO SH Ve ⊢;obtain⟨w1,hw1⟩:=Nm ((((w.alloc (.cells q.cells 23)).alloc (.cells (bI n1 a1 Sk z1) 53)).alloc (.cells (bI n2 a2 Sq z2) 53)).alloc (.cells dE 53));obtain⟨qb,Sm⟩:=Nm (w.heap.size);obtain⟨b1,hb1⟩:=Nm (w.heap.size+1);obtain⟨b2,hb2⟩:=Nm (w.heap.size+2);obtain⟨b6,hb6⟩:=Nm (w.heap.size+3);have hs1:(w.alloc (.cells q.cells 23)).heap.size=w.heap.size+1:=bq w _;have hs2:((w.alloc (.cells q.cells 23)).alloc (.cells (bI n1 a1 Sk z1) 53)).heap.size=w.heap.size+2:=by rw[bq,bq]
 have hs3:(((w.alloc (.cells q.cells 23)).alloc (.cells (bI n1 a1 Sk z1) 53)).alloc (.cells (bI n2 a2 Sq z2) 53)).heap.size=w.heap.size+3:=by rw[bq,bq,bq]
 have H1:Hid (Cg w qb b1 b2 b6 Q n1 a1 Sk z1 n2 a2 Sq z2 w1):=by
  have h:=wm w q n1 a1 Sk z1 n2 a2 Sq z2;have hB:=(Below.refl _ (((w.alloc (.cells q.cells 23)).alloc (.cells (bI n1 a1 Sk z1) 53)).alloc (.cells (bI n2 a2 Sq z2) 53))).alloc (bfx _) (.cells dE 53);rw[<-hw1]at hB;have hz:bW w1 b6 0 0 bS fU:=by rw[hw1,hb6,<-hs3];exact bg5 _ _
  rw[Sm,hb1,hb2,hQ];exact Lh ⟨by omega,h.1.below hB,h.2.1.below hB,h.2.2.1.below hB,hz,h.2.2.2.1.trans (hB.mono h.2.2.2.1.size)⟩
 have Hm:=Lh hm;clear hP h1 h2 k1 k2 hn1 hn2 hr1 hr2 hr3 hm her;obtain⟨kind,size,slide,late,agg,k⟩:=q;have Vj:Hid (Q.cells=#[.int .i64 kind,.int .i64 size,.int .i64 slide,.int .i64 late,.int .i64 agg,.int .i64 k]/\∀w',dn w' qb Q->D6 w' qb kind size slide late agg k):=by
  rw[hQ];exact Lh ⟨rfl,λw' h=>h.d6⟩
 unfold bz.cells at hw1 hs1 hs2 hs3 ⊢;unfold dE at hw1;unfold bI at hw1 hs2 hs3 ⊢;simp only[bS,fU]at hw1 hs1 hs2 hs3;rw[Vj.out.1]at VO SH Ve YG;obtain⟨mn,ma,ml,mu,mv⟩:=m;simp only at Va YG;clear hQ;obtain⟨d0,d1,d2,d3,d4,d5⟩:=Vj.out.2 w1 H1.out.2.1;obtain⟨f0,f1,f2,f3⟩:=H1.out.2.2.1.d4;go_enter func99,ntmps99;go_upto_region 1 with(fail);rw[<-hw1,<-hb6,<-hb2,<-hb1,<-Sm];clear hw1 Sm hb1 hb2 hb6 hs1 hs2 hs3;go_wp2_with(fail);refine(VO.out w1 H1.out.2.2.2.2.2).mono ?_;rintro e w2 ⟨rfl,hB⟩;have H2:Hid (Cg w qb b1 b2 b6 Q n1 a1 Sk z1 n2 a2 Sq z2 w2):=Lh (H1.out.below hB);clear hB d0 d1 d2 d3 d4 d5 f0 f1 f2 f3 H1 VO;dsimp only
 cases r1 with
 | false=>
  have hq:dA ⟨kind,size,slide,late,agg,k⟩ ⟨n1,a1,l1,u1,v1⟩ ⟨n2,a2,l2,u2,v2⟩=(dP,2):=by rw[TE.out];simp
  go_upto_region 2 with(fail);refine bg4 ?_
  iterate 3 go_step
  refine bg6 rfl _ _ _ rfl b6 dE rfl rfl 53 dE H2.out.2.2.2.2.1 bV rfl (kN rfl rfl) ?_;obtain⟨wy,Sy⟩:=Nm (w2.setRow b6 dE);have HZ:Hid (bW wy b6 0 0 bS fU/\P (.returned (.tuple #[.agg #[.int .i64 0,.int .i64 0,.slice none 0 0,.complex .f64 0 0],.int .i64 2])) wy):=by
   have hg:=bC w2 b6 dE;obtain⟨h0,h1,h2,h3,h4,h5⟩:=H2.out;rw[Sy];exact Lh ⟨h4.reset _ _ _ _,Xm.out _ 2 (h5.trans (bG hg h0 h5.size)) hq⟩
  rw[<-Sy];clear Sy hq;go_wp2_with(fail);exact bodyPost_ret (v:=.tuple #[.agg dE,.int .i64 2]) ((bK (p:=6) (u:=7) (ty:=53) rfl _ _ b6 53 dE (0,0) _ rfl HZ.out.1 underlying53 rfl bV).trans rfl) rfl HZ.out.2
 | true=>
 obtain⟨d0,d1,d2,d3,d4,d5⟩:=Vj.out.2 w2 H2.out.2.1;obtain⟨g0,g1,g2,g3⟩:=H2.out.2.2.2.1.d4;go_wp2_with(fail);refine(SH.out w2 H2.out.2.2.2.2.2).mono ?_;rintro e w3 ⟨rfl,hB⟩;have H3:Hid (Cg w qb b1 b2 b6 Q n1 a1 Sk z1 n2 a2 Sq z2 w3):=Lh (H2.out.below hB);clear hB d0 d1 d2 d3 d4 d5 g0 g1 g2 g3 H2 SH;dsimp only
 cases r2 with
 | false=>
  have hq:dA ⟨kind,size,slide,late,agg,k⟩ ⟨n1,a1,l1,u1,v1⟩ ⟨n2,a2,l2,u2,v2⟩=(dP,2):=by rw[TE.out];simp
  go_upto_region 2 with(fail);refine bg4 ?_
  iterate 3 go_step
  refine bg6 rfl _ _ _ rfl b6 dE rfl rfl 53 dE H3.out.2.2.2.2.1 bV rfl (kN rfl rfl) ?_;obtain⟨wy,Sy⟩:=Nm (w3.setRow b6 dE);have HZ:Hid (bW wy b6 0 0 bS fU/\P (.returned (.tuple #[.agg #[.int .i64 0,.int .i64 0,.slice none 0 0,.complex .f64 0 0],.int .i64 2])) wy):=by
   have hg:=bC w3 b6 dE;obtain⟨h0,h1,h2,h3,h4,h5⟩:=H3.out;rw[Sy];exact Lh ⟨h4.reset _ _ _ _,Xm.out _ 2 (h5.trans (bG hg h0 h5.size)) hq⟩
  rw[<-Sy];clear Sy hq;go_wp2_with(fail);exact bodyPost_ret (v:=.tuple #[.agg dE,.int .i64 2]) ((bK (p:=6) (u:=7) (ty:=53) rfl _ _ b6 53 dE (0,0) _ rfl HZ.out.1 underlying53 rfl bV).trans rfl) rfl HZ.out.2
 | true=>
 obtain⟨d0,d1,d2,d3,d4,d5⟩:=Vj.out.2 w3 H3.out.2.1;obtain⟨f0,f1,f2,f3⟩:=H3.out.2.2.1.d4;obtain⟨g0,g1,g2,g3⟩:=H3.out.2.2.2.1.d4;go_upto_region 3 with(fail);refine bg4 ?_
 iterate 9 go_step
 refine wpList_plain rfl λK hK=>?_;go_step;refine(Ve.out (by simp) (by simp) w3 H3.out.2.2.2.2.2).mono ?_
 rintro e w4 ⟨tv,z,rfl,hI,hW,hB,hnb⟩;have U0:Hid ((∀a n c,tv=.slice (some a) n c->w.heap.size<=a.block)/\∀a n c,tv=.slice (some a) n c->ml≠[]->a.block≠b6):=by
  have l6:=H3.out.2.2.2.2.1.lt;have l0:=H3.out.1;exact Lh ⟨λa n c e=>by have:=hnb a n c e;omega,λa n c e _=>by have:=hnb a n c e;omega⟩
 refine hK _ _ ?_;have H4:Hid (Cg w qb b1 b2 b6 Q n1 a1 Sk z1 n2 a2 Sq z2 w4/\bA w4 tv ml/\dw z mu mv):=Lh ⟨H3.out.below hB,hI,hW⟩;unfold bI;simp only;clear hK hB hI hW hnb d0 d1 d2 d3 d4 d5 f0 f1 f2 f3 g0 g1 g2 g3 H3 Ve
 iterate 12 go_step
 refine bg6 rfl _ _ _ rfl w4.heap.size (bI mn ma tv z) rfl rfl 53 dE (bg5 w4 _) bV rfl (gm H4.out.2.1 H4.out.2.2) ?_;obtain⟨w5,Xu⟩:=Nm ((w4.alloc (Obj.cells #[.int .i64 0,.int .i64 0,.slice none 0 0,.complex .f64 0 0] 53)).setRow w4.heap.size (bI mn ma tv z));obtain⟨b8,ek⟩:=Nm (w4.heap.size);have H5:Hid (Cg w qb b1 b2 b6 Q n1 a1 Sk z1 n2 a2 Sq z2 w5/\bA w5 tv ml/\dw z mu mv/\bW w5 b8 mn ma tv z/\b6<b8):=by
  obtain⟨k1,k2⟩:=lZ w4 mn ma tv z;rw[Xu,ek];exact Lh ⟨H4.out.1.below k2,H4.out.2.1.below k2,H4.out.2.2,k1,H4.out.1.2.2.2.2.1.lt⟩
 rw[<-Xu,<-ek];clear Xu ek H4;rcases Her.out with rfl | rfl
 ·obtain⟨d0,d1,d2,d3,d4,d5⟩:=Vj.out.2 w5 H5.out.1.2.1;obtain⟨f0,f1,f2,f3⟩:=H5.out.2.2.2.1.d4;go_wp2_with(fail);refine(YG.out (by simp) (by simp) w5 tv z H5.out.2.1 H5.out.2.2.1).mono ?_
  rintro e w6 ⟨rfl,hB⟩;have H6:Hid (Cg w qb b1 b2 b6 Q n1 a1 Sk z1 n2 a2 Sq z2 w6/\bA w6 tv ml/\dw z mu mv/\bW w6 b8 mn ma tv z/\b6<b8):=by
   obtain⟨j1,j2,j3,j4,j5⟩:=H5.out;exact Lh ⟨j1.below hB,j2.below hB,j3,j4.below hB,j5⟩
  clear hB d0 d1 d2 d3 d4 d5 f0 f1 f2 f3 H5 YG;dsimp only
  cases r3 with
  | false=>
   have UF:=Lh H6.out.1;have hq:dA ⟨kind,size,slide,late,agg,k⟩ ⟨n1,a1,l1,u1,v1⟩ ⟨n2,a2,l2,u2,v2⟩=(dP,20):=by rw[TE.out];simp
   go_upto_region 5 with(fail);refine bg4 ?_
   iterate 3 go_step
   refine bg6 rfl _ _ _ rfl b6 dE rfl rfl 53 dE UF.out.2.2.2.2.1 bV rfl (kN rfl rfl) ?_;obtain⟨wy,Sy⟩:=Nm (w6.setRow b6 dE);have HZ:Hid (bW wy b6 0 0 bS fU/\P (.returned (.tuple #[.agg #[.int .i64 0,.int .i64 0,.slice none 0 0,.complex .f64 0 0],.int .i64 20])) wy):=by
    have hg:=bC w6 b6 dE;obtain⟨h0,h1,h2,h3,h4,h5⟩:=UF.out;rw[Sy];exact Lh ⟨h4.reset _ _ _ _,Xm.out _ 20 (h5.trans (bG hg h0 h5.size)) hq⟩
   rw[<-Sy];clear Sy hq;go_wp2_with(fail);exact bodyPost_ret (v:=.tuple #[.agg dE,.int .i64 20]) ((bK (p:=6) (u:=7) (ty:=53) rfl _ _ b6 53 dE (0,0) _ rfl HZ.out.1 underlying53 rfl bV).trans rfl) rfl HZ.out.2
  | true=>
   have hq:dA ⟨kind,size,slide,late,agg,k⟩ ⟨n1,a1,l1,u1,v1⟩ ⟨n2,a2,l2,u2,v2⟩=(⟨mn,ma,ml,mu,mv⟩,0):=by rw[TE.out];rfl
   obtain⟨f0,f1,f2,f3⟩:=H6.out.2.2.2.1.d4;go_upto_region 6 with(fail);refine bg4 ?_
   iterate 3 go_step
   refine bg6 rfl _ _ _ rfl b6 (bI mn ma tv z) rfl rfl 53 dE H6.out.1.2.2.2.2.1 bV rfl (gm H6.out.2.1 H6.out.2.2.1) ?_;obtain⟨wy,Sy⟩:=Nm (w6.setRow b6 (bI mn ma tv z));have HZ:Hid (bW wy b6 mn ma tv z/\P (.returned (.tuple #[.agg #[.int .i64 mn,.int .i64 ma,tv,z],.int .i64 0])) wy):=by
    have hg:=bC w6 b6 (bI mn ma tv z);obtain⟨⟨h0,h1,h2,h3,h4,h5⟩,j2,j3,j4,j5⟩:=H6.out;rw[Sy];refine Lh ⟨h4.reset _ _ _ _,Va.out _ tv z (j2.grown hg U0.out.2) j3 (h5.trans (bG hg h0 h5.size)) U0.out.1 hq⟩
   rw[<-Sy];clear Sy f0 f1 f2 f3 hq;go_wp2_with(fail);exact bodyPost_ret (v:=.tuple #[.agg (bI mn ma tv z),.int .i64 0]) ((bK (p:=6) (u:=7) (ty:=53) rfl _ _ b6 53 (bI mn ma tv z) (0,0) _ rfl HZ.out.1 underlying53 rfl bV).trans rfl) rfl HZ.out.2
 have UE:=Lh H5.out.1;have hq:dA ⟨kind,size,slide,late,agg,k⟩ ⟨n1,a1,l1,u1,v1⟩ ⟨n2,a2,l2,u2,v2⟩=(dP,20):=by rw[TE.out];simp
 go_upto_region 5 with(fail);refine bg4 ?_
 iterate 3 go_step
 refine bg6 rfl _ _ _ rfl b6 dE rfl rfl 53 dE UE.out.2.2.2.2.1 bV rfl (kN rfl rfl) ?_;obtain⟨wy,Sy⟩:=Nm (w5.setRow b6 dE);have HZ:Hid (bW wy b6 0 0 bS fU/\P (.returned (.tuple #[.agg #[.int .i64 0,.int .i64 0,.slice none 0 0,.complex .f64 0 0],.int .i64 20])) wy):=by
  have hg:=bC w5 b6 dE;obtain⟨h0,h1,h2,h3,h4,h5⟩:=UE.out;rw[Sy];exact Lh ⟨h4.reset _ _ _ _,Xm.out _ 20 (h5.trans (bG hg h0 h5.size)) hq⟩
 rw[<-Sy];clear Sy hq;go_wp2_with(fail);exact bodyPost_ret (v:=.tuple #[.agg dE,.int .i64 20]) ((bK (p:=6) (u:=7) (ty:=53) rfl _ _ b6 53 dE (0,0) _ rfl HZ.out.1 underlying53 rfl bV).trans rfl) rfl HZ.out.2
theorem qA {q:bz} {x:dS}(h:x.bB q=true):lT q.k.toNat x.top=x.top/\(q.agg≠6->x.top=[])/\(x.n=0->x.top=[]):=by
 simp only[dS.bB,bf8,bf0]at h;obtain⟨⟨⟨⟨⟨⟨⟨⟨h1,h2⟩,h3⟩,h4⟩,h5⟩,h6⟩,h7⟩,h8⟩,h9⟩:=h;obtain⟨_,_,_,_,_,ha,hk,hk0⟩:=gU h1;have hkp:0<=q.k:=by
  by_cases e:q.agg=6
  ·have:=hk e;omega
  have:=hk0 e;omega
 refine⟨?_,λe=>?_,λe=>?_⟩
 ·rw[Gs (List.Perm.refl _) h9,List.take_of_length_le]
  split at h7 <;> omega
 ·rw[if_neg e]at h7;exact List.length_eq_zero_iff.1 (by omega)
 refine List.length_eq_zero_iff.1 ?_
 split at h7 <;> omega
theorem MU {q:bz} {x y:dS}(h1:x.bB q=true)(h2:y.bB q=true)(ho:jg q x y=false):rC q x y=x.merge q y:=by
 obtain⟨t1,t2,t3⟩:=qA h1;obtain⟨s1,s2,s3⟩:=qA h2;simp only[dS.bB,bf8,bf0]at h1 h2;obtain⟨⟨⟨⟨⟨⟨⟨⟨_,a2⟩,a3⟩,a4⟩,a5⟩,a6⟩,a7⟩,a8⟩,a9⟩:=h1;obtain⟨⟨⟨⟨⟨⟨⟨⟨_,b2⟩,b3⟩,b4⟩,b5⟩,b6⟩,b7⟩,b8⟩,b9⟩:=h2;have hA:∀z:dS,(-lL q.agg<=z.a/\z.a<=lL q.agg)->¬(q.agg=2∨q.agg=5)->¬(q.agg=3∨q.agg=4)->z.a=0:=λz h e1 e2=>by
  rw[lL,if_neg e1,if_neg e2]at h;omega
 obtain⟨n1,c1,l1,u1,v1⟩:=x;obtain⟨n2,c2,l2,u2,v2⟩:=y;have hA1:=hA ⟨n1,c1,l1,u1,v1⟩ a4;have hA2:=hA ⟨n2,c2,l2,u2,v2⟩ b4;simp only at t1 t2 t3 s1 s2 s3 a2 a5 a6 b2 b5 b6 hA1 hA2;have hu:(if q.agg=7/\jg q ⟨n1,c1,l1,u1,v1⟩ ⟨n2,c2,l2,u2,v2⟩=false then u1+u2 else 0)=u1+u2:=by
  by_cases e:q.agg=7
  ·rw[if_pos ⟨e,ho⟩]
  rw[if_neg (λh=>e h.1)];have:=a5 e;have:=b5 e;omega
 have hv:(if q.agg=7/\jg q ⟨n1,c1,l1,u1,v1⟩ ⟨n2,c2,l2,u2,v2⟩=false then v1+v2 else 0)=v1+v2:=by
  by_cases e:q.agg=7
  ·rw[if_pos ⟨e,ho⟩]
  rw[if_neg (λh=>e h.1)];have:=a5 e;have:=b5 e;omega
 rw[rC,hu,hv,CF];simp only[dS.merge];by_cases z1:n1=0
 ·obtain⟨d1,d2,d3⟩:=a6 z1;have d4:=t3 z1;subst z1 d1 d2 d3 d4;rw[if_pos rfl];simp only[dS.mk.injEq,List.nil_append,s1,Int.zero_add,true_and,and_true];constructor
  ·by_cases e1:q.agg=2∨q.agg=5
   ·rw[if_pos e1]
   rw[if_neg e1];by_cases e2:q.agg=3∨q.agg=4
   ·rw[if_pos e2];simp[r9]
   rw[if_neg e2,hA2 e1 e2]
  split
  ·rfl
  rename_i e;rw[s2 e]
 rw[if_neg z1];by_cases z2:n2=0
 ·obtain⟨d1,d2,d3⟩:=b6 z2;have d4:=s3 z2;subst z2 d1 d2 d3 d4;rw[if_pos rfl];simp only[dS.mk.injEq,bg2,t1,Int.add_zero,true_and,and_true];constructor
  ·by_cases e1:q.agg=2∨q.agg=5
   ·rw[if_pos e1]
   rw[if_neg e1];by_cases e2:q.agg=3∨q.agg=4
   ·rw[if_pos e2];simp[r9,z1]
   rw[if_neg e2,hA1 e1 e2]
  split
  ·rfl
  rename_i e;rw[t2 e]
 rw[if_neg z2];simp only[dS.mk.injEq,true_and,and_true];constructor
 ·by_cases e1:q.agg=2∨q.agg=5
  ·rw[if_pos e1,if_neg (by omega),if_neg (by omega)]
  rw[if_neg e1];by_cases e2:q.agg=3∨q.agg=4
  ·rw[if_pos e2];by_cases e3:q.agg=3
   ·rw[if_pos e3];simp only[r9,e3];simp[z1,z2]
   rw[if_neg e3,if_pos (by omega)]
   simp only[r9];simp[z1,z2,e3]
  rw[if_neg e2,if_neg (by omega),if_neg (by omega),hA1 e1 e2,hA2 e1 e2]
  rfl
 split
 ·rfl
 rename_i e;rw[t2 e]
theorem Di {q:bz} {x y:dS}(h1:x.bB q=true)(h2:y.bB q=true):dA q x y=if (x.merge q y).bB q=true then (x.merge q y,0)else (dP,20):=by
 have hc:x.bB q=true/\y.bB q=true:=⟨h1,h2⟩;rw[dA,if_pos hc];by_cases ho:jg q x y=false
 ·rw[MU h1 h2 ho];by_cases hr:(x.merge q y).bB q=true
  ·rw[if_pos ⟨ho,hr⟩,if_pos hr]
  rw[if_neg (λh=>hr h.2),if_neg hr]
 rw[if_neg (λh=>ho h.1),if_neg];intro hr;simp only[jg,Bool.and_eq_false_iff,not_or,Bool.not_eq_false,bf0,Bool.not_eq_true']at ho;obtain⟨h7,hin⟩:=ho;have hin':¬mr (x.u+y.u) (x.v+y.v):=of_decide_eq_false hin;apply hin';simp only[dS.bB,bf8,bf0]at h1 h2 hr;obtain⟨⟨⟨⟨⟨⟨⟨⟨_,a2⟩,a3⟩,a4⟩,a5⟩,a6⟩,a7⟩,a8⟩,a9⟩:=h1;obtain⟨⟨⟨⟨⟨⟨⟨⟨_,b2⟩,b3⟩,b4⟩,b5⟩,b6⟩,b7⟩,b8⟩,b9⟩:=h2;have hin2:mr (x.merge q y).u (x.merge q y).v:=hr.1.1.1.1.1.1.2;rw[dS.merge]at hin2;by_cases z1:x.n=0
 ·obtain⟨_,d2,d3⟩:=a6 z1;rw[d2,d3,Int.zero_add,Int.zero_add];exact b3
 rw[if_neg z1]at hin2;by_cases z2:y.n=0
 ·obtain⟨_,d2,d3⟩:=b6 z2;rw[d2,d3,Int.add_zero,Int.add_zero];exact a3
 rw[if_neg z2]at hin2;exact hin2
def jV(q:bz)(x:dS)(v:Int):dS × Int:=if jL v 1099511627776=true then dA q x (kv q.agg v)else (dP,2)
def Ce(w:World)(qb b1 b6:Nat)(q:bz)(x:dS)(Sk z1:Value)(w':World):Prop:=
 (w.heap.size<=b6/\qb<b6/\b1<b6)/\dn w' qb q/\bW w' b1 x.n x.a Sk z1/\bW w' b6 0 0 bS fU/\Bw w w'
theorem Ce.below {w:World} {qb b1 b6:Nat} {q:bz} {x:dS} {Sk z1:Value} {w' w'':World}(h:Ce w qb b1 b6 q x Sk z1 w')(hB:Bw w' w''):Ce w qb b1 b6 q x Sk z1 w'':=by
 obtain⟨h0,h1,h2,h3,h4⟩:=h;exact⟨h0,h1.below hB,h2.below hB,h3.below hB,Tb h4 hB⟩
def Qj(b6:Nat)(m:dS)(w':World)(tv z:Value):Prop:=bA w' tv m.top/\dw z m.u m.v/\∀a n c,tv=.slice (some a) n c->b6<a.block
def RI(w:World)(qb b1 b6:Nat)(q:bz)(x:dS)(Sk z1:Value)(m:dS):Nat->World->Prop
 | 0,w'=>Ce w qb b1 b6 q x Sk z1 w'
 | 1,w'=>Ce w qb b1 b6 q x Sk z1 w'
 | 2,w'=>Ce w qb b1 b6 q x Sk z1 w'
 | _+3,w'=>∃tv z,bW w' b6 m.n m.a tv z/\Qj b6 m w' tv z/\Bw w w'/\dn w' qb q/\bW w' b1 x.n x.a Sk z1
theorem NC(w:World)(q:bz)(x:dS)(Sk z1:Value)(v:Int)(h1:bA w Sk x.top)(k1:dw z1 x.u x.v)(hn1:x.top.length<=1000000):
  Calls prog 100 #[.agg q.cells,.agg (bI x.n x.a Sk z1),.int .i64 v] w (lD w (jV q x v).1 (jV q x v).2):=by
 obtain⟨P,hP⟩:=Nm (lD w (jV q x v).1 (jV q x v).2);rw[<-hP];obtain⟨r1,hr1⟩:=Nm (jL v 1099511627776);obtain⟨o,ho⟩:=Nm (kv q.agg v);obtain⟨m,hm⟩:=Nm ((dA q x o).1);obtain⟨er,her⟩:=Nm ((dA q x o).2);have Xm:Hid (∀w' aX,Bw w w'->jV q x v=(dP,aX)->P (.returned (.tuple #[.agg #[.int .i64 0,.int .i64 0,.slice none 0 0,.complex .f64 0 0],.int .i64 aX])) w'):=by
  refine Lh (λw' aX hB hq=>?_);rw[hP,hq];exact⟨_,_,rfl,bA.nil _,gL,hB,λ_ _ _ h=>by cases h⟩
 have TE:Hid (jV q x v=if r1=true then (m,er)else (dP,2)):=by
  rw[jV,<-hr1,<-ho,hm,her];exact Lh rfl
 have Va:Hid (∀w' tv z b6,w.heap.size<=b6->Qj b6 m w' tv z->Bw w w'->r1=true->P (.returned (.tuple #[.agg (bI m.n m.a tv z),.int .i64 er])) w'):=by
  refine Lh (λw' tv z b6 j0 j1 j2 j3=>?_);rw[hP,TE.out,if_pos j3];exact⟨tv,z,rfl,j1.1,j1.2.1,j2,λa n c e=>by have:=j1.2.2 a n c e;omega⟩
 have VO:Hid (∀w',Calls prog 55 #[.int .i64 v,.int .i64 1099511627776] w' (λe w''=>e=.returned (.bool r1)/\w''=w')):=by
  rw[hr1];exact Lh (λw'=>rX w' v _ (by decide))
 obtain⟨VQ,SS⟩:=Nm (Value.agg q.cells);obtain⟨VA,Xo⟩:=Nm (Value.agg (bI x.n x.a Sk z1));have SH:Hid (∀w',Calls prog 123 #[VQ,.int .i64 v] w' (Je w' o)):=by
  rw[ho,SS];exact Lh (λw'=>NE w' q v)
 have Ve:Hid (∀w' tv z,Bw w w'->bA w' tv o.top->dw z o.u o.v->Calls prog 99 #[VQ,VA,.agg (bI o.n o.a tv z)] w' (lD w' m er)):=by
  rw[hm,her,SS,Xo];refine Lh (λw' tv z hB j1 j2=>zG w' q x o Sk z1 tv z (h1.below hB) j1 k1 j2 hn1 ?_);rw[ho,kv];simp only
  split <;> simp
 obtain⟨w1,hw1⟩:=Nm (((w.alloc (.cells q.cells 23)).alloc (.cells (bI x.n x.a Sk z1) 53)).alloc (.cells dE 53));obtain⟨qb,Sm⟩:=Nm (w.heap.size);obtain⟨b1,hb1⟩:=Nm (w.heap.size+1);obtain⟨b6,hb6⟩:=Nm (w.heap.size+2);have hs1:(w.alloc (.cells q.cells 23)).heap.size=w.heap.size+1:=bq w _;have hs2:((w.alloc (.cells q.cells 23)).alloc (.cells (bI x.n x.a Sk z1) 53)).heap.size=w.heap.size+2:=by rw[bq,bq]
 have H1:Hid (Ce w qb b1 b6 q x Sk z1 w1):=by
  have h:=qK w q x.n x.a Sk z1;have hB:=(Below.refl _ ((w.alloc (.cells q.cells 23)).alloc (.cells (bI x.n x.a Sk z1) 53))).alloc (bfx _) (.cells dE 53);rw[<-hw1]at hB;have hz:bW w1 b6 0 0 bS fU:=by rw[hw1,hb6,<-hs2];exact bg5 _ _
  rw[Sm,hb1];exact Lh ⟨⟨by omega,by omega,by omega⟩,h.1.below hB,h.2.1.below hB,hz,h.2.2.trans (hB.mono h.2.2.size)⟩
 clear hP h1 k1 hn1 hr1 hm her ho;obtain⟨kind,size,slide,late,agg,kq⟩:=q;obtain⟨n1,a1,l1,u1,v1⟩:=x;have VF:Hid (VQ=.agg #[.int .i64 kind,.int .i64 size,.int .i64 slide,.int .i64 late,.int .i64 agg,.int .i64 kq]):=Lh SS;have I1:Hid (VA=.agg #[.int .i64 n1,.int .i64 a1,Sk,z1]):=Lh Xo;clear SS Xo;obtain⟨Q,hQ⟩:=Nm (bz.mk kind size slide late agg kq);obtain⟨X,hX⟩:=Nm (dS.mk n1 a1 l1 u1 v1);have U6:Hid (∀w',dn w' qb Q->D6 w' qb kind size slide late agg kq):=by
  rw[hQ];exact Lh (λw' h=>h.d6)
 have Vk:Hid (∀w',bW w' b1 X.n X.a Sk z1->D4 w' b1 n1 a1 Sk z1):=by
  rw[hX];exact Lh (λw' h=>h.d4)
 rw[<-hQ,<-hX]at H1 TE Xm;simp only at hw1 hs2;clear hQ hX;unfold bz.cells at hw1 hs1 hs2 ⊢;unfold dE at hw1;unfold bI at hw1 hs2 ⊢;simp only[bS,fU]at hw1 hs1 hs2 ⊢;go_enter func100,ntmps100;go_upto_region 1 with(fail);rw[<-hw1,<-hb6,<-hb1,<-Sm];clear hw1 Sm hb1 hb6 hs1 hs2;go_wp2_with(fail);refine(VO.out w1).mono ?_;rintro e w2 ⟨rfl,hw2⟩;subst w2;clear VO;dsimp only
 cases r1 with
 | false=>
  have hq:jV Q X v=(dP,2):=by rw[TE.out];simp
  go_upto_region 2 with(fail);refine bg4 ?_
  iterate 3 go_step
  refine bg6 rfl _ _ _ rfl b6 dE rfl rfl 53 dE H1.out.2.2.2.1 bV rfl (kN rfl rfl) ?_;obtain⟨wy,Sy⟩:=Nm (w1.setRow b6 dE);have HZ:Hid (bW wy b6 0 0 bS fU/\P (.returned (.tuple #[.agg #[.int .i64 0,.int .i64 0,.slice none 0 0,.complex .f64 0 0],.int .i64 2])) wy):=by
   have hg:=bC w1 b6 dE;obtain⟨h0,h1,h2,h3,h4⟩:=H1.out;rw[Sy];exact Lh ⟨h3.reset _ _ _ _,Xm.out _ 2 (h4.trans (bG hg h0.1 h4.size)) hq⟩
  rw[<-Sy];clear Sy hq;go_wp2_with(fail);exact bodyPost_ret (v:=.tuple #[.agg dE,.int .i64 2]) ((bK (p:=6) (u:=7) (ty:=53) rfl _ _ b6 53 dE (0,0) _ rfl HZ.out.1 underlying53 rfl bV).trans rfl) rfl HZ.out.2
 | true=>
 have SB:Hid (RI w qb b1 b6 Q X Sk z1 m 0 w1.drew):=Lh (H1.out.below (Below.refl _ w1).drew)
 have aF:Hid (∀k w',RI w qb b1 b6 Q X Sk z1 m k w'->dn w' qb Q):=Lh (λk w' h=>match k,h with
  | 0,h=>h.2.1
  | 1,h=>h.2.1
  | 2,h=>h.2.1
  | _+3,⟨_,_,_,_,_,h,_⟩=>h)
 have Eu:Hid (∀k w',RI w qb b1 b6 Q X Sk z1 m k w'->bW w' b1 X.n X.a Sk z1):=Lh (λk w' h=>match k,h with
  | 0,h=>h.2.2.1
  | 1,h=>h.2.2.1
  | 2,h=>h.2.2.1
  | _+3,⟨_,_,_,_,_,_,h⟩=>h)
 have SA:Hid (w.heap.size<=b6):=Lh H1.out.1.1;clear H1;go_upto_region 3 with(fail);refine bD (λi=>([]:List Nat).contains i) (by kernel_rfl) [none,none,none,none,some 0,some 1,none,none,some 2,none] [4,5,8] (V4 (VQ::VA::VQ::([.int .i64 v,undef,undef,undef,.int .i64 er,undef,.int .i64 er]:List Value)) 4 (λk w' v=>k=1->∃tv z,v=.agg (bI o.n o.a tv z)/\bA w' tv o.top/\dw z o.u o.v) 5 (λk w' v=>2<=k/\∃tv z,v=.tuple #[.agg (bI m.n m.a tv z),.int .i64 er]/\(k=2->Qj b6 m w' tv z)) 6 (λk w' v=>2<=k/\∃tv z,v=.agg (bI m.n m.a tv z)/\(k=2->Qj b6 m w' tv z)) 99 (λ_ _ _=>True)) (RI w qb b1 b6 Q X Sk z1 m) (λw w'=>Bw w w') (qm _ (λk w w' v h ha hk=>by obtain⟨tv,z,h1,h2,h3⟩:=ha hk;exact⟨tv,z,h1,h2.below h,h3⟩) (λk w_ w' v h ha=>by obtain⟨hk,tv,z,h1,h2⟩:=ha;exact⟨hk,tv,z,h1,λe=>⟨(h2 e).1.below h,(h2 e).2⟩⟩) (λk w_ w' v h ha=>by obtain⟨hk,tv,z,h1,h2⟩:=ha;exact⟨hk,tv,z,h1,λe=>⟨(h2 e).1.below h,(h2 e).2⟩⟩) (λ_ _ _ _ _ h=>h)) (by kernel_rfl) (by kernel_rfl) (by kernel_rfl) SB.out (λ_=>⟨rfl,rfl,rfl,rfl,rfl,rfl,rfl,rfl,rfl,rfl,trivial⟩) (λ_ h=>by simp at h) ?_ ?_
 ·refine ⟨?_,?_,?_,?_,?_,?_,?_,?_,?_,?_,trivial⟩<;>(first|(intro _ kk a w' hG Si Sj K hK;guard_hyp w':World)|intro _ a w' hG Si Sj K hK)<;>replace Si:=Lh Si<;>replace Sj:=Lh Sj
  ·have q3:=FaA Si 3 qb 0;obtain⟨d0,d1,d2,d3,d4,d5⟩:=U6.out _ (aF.out _ _ hG);go_step;exact hK _ _ VF.out.symm hG Br
  ·have q4:=FaA Si 4 b1 0;obtain⟨d0,d1,d2,d3⟩:=Vk.out _ (Eu.out _ _ hG);go_step;exact hK _ _ I1.out.symm hG Br
  ·have q3:=FaA Si 3 qb 0;obtain⟨d0,d1,d2,d3,d4,d5⟩:=U6.out _ (aF.out _ _ hG);go_step;exact hK _ _ VF.out.symm hG Br
  have q2:=FiA Si 2 v;rotate_left
  ·have Ww:=Ep a 14 VQ Sj.out.1;have Xv:=Pi a 15 v Sj.out.2.1;have hG1:Ce w qb b1 b6 Q X Sk z1 w':=hG;have WN:=Lh hG1;clear hG hG1;go_step;refine(SH.out w').mono ?_;rintro e w3 ⟨tv,z,rfl,k1,k2,hB⟩;exact hK _ _ (λ_=>⟨tv,z,rfl,k1,k2⟩) (WN.out.below hB) (jq (.inl rfl) (.inr λu h=>absurd h.1 (by decide)) (.inr λu h=>absurd h.1 (by decide)) (.inr λ_ h=>h))
  ·obtain ⟨_,_,p2,_⟩:=Sj.out;have VU:=Ep a 12 VQ Sj.out.1;have YR:=Ep a 13 VA Sj.out.2.1;obtain⟨tv,z,hv,k1,k2⟩:=(show(1=1)->(∃tv z,a.eval (.tmp 16)=.agg (bI o.n o.a tv z)/\bA w' tv o.top/\dw z o.u o.v)from p2) rfl;have q16:=bf hv;have hG1:Ce w qb b1 b6 Q X Sk z1 w':=hG;have HS2:=Lh (Ve.out w' tv z hG1.2.2.2.2 k1 k2);have WN:=Lh hG1;clear p2 hv hG hG1;go_step;refine HS2.out.mono ?_;rintro e w3 ⟨tv3,z3,rfl,j1,j2,hB,hnb⟩;exact hK _ _ ⟨by decide,tv3,z3,rfl,λ_=>⟨j1,j2,λa n c e=>Nat.lt_of_lt_of_le WN.out.2.2.2.1.lt (hnb a n c e)⟩⟩ (WN.out.below hB) (jq (.inr λu _ h=>absurd h (by decide)) (.inl rfl) (.inr λu h=>absurd h.1 (by decide)) (.inr λ_ h=>h))
  ·obtain ⟨p0,_⟩:=Sj.out;obtain⟨hk2,tv,z,hv,hz⟩:=(show 2<=kk/\∃tv z,a.eval (.tmp 17)=.tuple #[.agg (bI m.n m.a tv z),.int .i64 er]/\(kk=2->Qj b6 m w' tv z)from p0);have Wx:=bf hv;clear p0 hv;go_step;exact hK _ _ ⟨hk2,tv,z,rfl,hz⟩ hG Br
  obtain ⟨p0,_⟩:=Sj.out;obtain⟨hk2,tv,z,hv,hz⟩:=(show 2<=kk/\∃tv z,a.eval (.tmp 17)=.tuple #[.agg (bI m.n m.a tv z),.int .i64 er]/\(kk=2->Qj b6 m w' tv z)from p0);have Wx:=bf hv;clear p0 hv;rotate_left
  ·obtain ⟨p0,_⟩:=Sj.out;obtain⟨_,tv,z,hv,hz⟩:=(show 2<=2/\∃tv z,a.eval (.tmp 18)=.agg (bI m.n m.a tv z)/\(2=2->Qj b6 m w' tv z)from p0);obtain⟨j1,j2,j3⟩:=hz rfl;have q6:=((Si.out 6 rfl).trans (show _=Value.pointer (some ⟨b6,0,none⟩)from rfl));obtain⟨g0,g1,g2,g3,g4⟩:Ce w qb b1 b6 Q X Sk z1 w':=hG;clear p0 hz;refine wp_store_row _ (.tmp 6) (.tmp 18) rfl b6 (bI m.n m.a tv z) q6 hv _ dE g3 bV rfl (gm j1 j2) ?_;have hg:=bC w' b6 (bI m.n m.a tv z);have l6:=g3.lt;exact hK _ _ rfl ⟨tv,z,g3.reset _ _ _ _,⟨j1.grown hg (λa n c e _=>by have:=j3 a n c e;omega),j2,j3⟩,g4.trans (bG hg g0.1 g4.size),(hg.block qb g1.lt (by simp;omega)).trans g1,g2.grown hg (by simp;omega)⟩ (jq (.inr λu _ h=>absurd h (by decide)) (.inr λu h=>⟨by decide,h.2.imp λtv h=>h.imp λz h=>⟨h.1,λe=>absurd e (by decide)⟩⟩) (.inr λu h=>⟨by decide,h.2.imp λtv h=>h.imp λz h=>⟨h.1,λe=>absurd e (by decide)⟩⟩) (.inr λ_ h=>h))
  have VV:=Pi a 19 er Sj.out.1;rotate_left
  all_goals(go_step;exact hK _ _ rfl hG Br)
 intro vs w2_ hG hlen hV
 match vs,hlen,hV with
 | [v0,v1,v2,v3,v4,v5,v6,v7,v8,v9],_,hV=>
  obtain rfl:v9=.int .i64 er:=hV 9 7 v9 rfl rfl;obtain⟨tv,z,hr,hv,hB,_⟩:∃tv z,bW w2_ b6 m.n m.a tv z/\Qj b6 m w2_ tv z/\Bw w w2_/\_:=hG;have HZ:Hid (bW w2_ b6 m.n m.a tv z/\P (.returned (.tuple #[.agg (bI m.n m.a tv z),.int .i64 er])) w2_):=Lh ⟨hr,Va.out w2_ tv z b6 SA.out hv hB rfl⟩;clear hV hr hv hB;simp only[dG,bf7,bf1];simp only[Act.put,bfw,bfu,bfv];go_wp2_with(fail);exact bodyPost_ret (v:=.tuple #[.agg (bI m.n m.a tv z),.int .i64 er]) ((bK (p:=6) (u:=7) (ty:=53) rfl _ _ b6 53 (bI m.n m.a tv z) (0,0) _ rfl HZ.out.1 underlying53 rfl bV).trans rfl) rfl HZ.out.2
def dV(q:bz)(x:dS):List Int:=
 if x.bB q=true/\x.n≠0 then (if q.agg=1 then [x.n]else if q.agg=5 then [vk x.a x.n]else if q.agg=6 then x.top else if q.agg=7 then [x.u,x.v]else [x.a])else []
def DJ(w:World)(l:List Int)(e:Ending)(w':World):Prop:=∃tv,e=.returned tv/\bA w' tv l/\Bw w w'/\∀a n c,tv=.slice (some a) n c->w.heap.size<=a.block
theorem bA.cell1 {w:World} {g:Nat} {x:Int}(h:w.heap[g]? =some (.cells #[.int .i64 x] 3 (0,0))):bA w (.slice (some ⟨g,0,none⟩) 1 1) [x]:=by
 refine⟨_,1,rfl,bfx _,.inr ⟨g,0,rfl,.inr ⟨_,h⟩,λi y hy=>?_⟩⟩
 match i,hy with
 | 0,hy=>
  simp only[bgp,bf5]at hy;subst hy;rw[cell_of_row _ _ _ _ _ _ h];rfl
 | i+1,hy=>simp at hy
theorem bA.Qt {w:World} {g:Nat} {x y:Int}(h:w.heap[g]? =some (.cells #[.int .i64 x,.int .i64 y] 3 (0,0))):bA w (.slice (some ⟨g,0,none⟩) 2 2) [x,y]:=by
 refine⟨_,2,rfl,bfx _,.inr ⟨g,0,rfl,.inr ⟨_,h⟩,λi z hz=>?_⟩⟩
 match i,hz with
 | 0,hz=>
  simp only[bgp,bf5]at hz;subst hz;rw[cell_of_row _ _ _ _ _ _ h];rfl
 | 1,hz=>
  simp only[List.getElem?_cons_succ,bgp,bf5]at hz;subst hz;rw[cell_of_row _ _ _ _ _ _ h];rfl
 | i+2,hz=>simp at hz
theorem J8 {q:bz} {x:dS}(h:x.bB q=true):x.top.length<=8:=(fM h).2.2.2.1
theorem Jj(w:World)(q:bz)(x:dS)(Sk z1:Value)(h1:bA w Sk x.top)(k1:dw z1 x.u x.v)(hn1:x.top.length<=1000000):
  Calls prog 19 #[.agg q.cells,.agg (bI x.n x.a Sk z1)] w (DJ w (dV q x)):=by
 obtain⟨P,hP⟩:=Nm (DJ w (dV q x));rw[<-hP];obtain⟨r1,hr1⟩:=Nm (x.bB q);have Xm:Hid (∀w',Bw w w'->dV q x=[]->P (.returned (.slice none 0 0)) w'):=by
  refine Lh (λw' hB hq=>?_);rw[hP,hq];exact⟨_,rfl,bA.nil _,hB,λ_ _ _ h=>by cases h⟩
 have TJ:Hid (∀w' n,Bw w w'->dV q x=[n]->P (.returned (.slice (some ⟨w'.heap.size,0,none⟩) 1 1)) (w'.alloc (.cells #[.int .i64 n] 3))):=by
  refine Lh (λw' n hB hq=>?_);rw[hP,hq];exact⟨_,rfl,bA.cell1 (bg5 w' _),hB.trans (((Below.refl _ w').alloc (bfx _) _).mono hB.size),λa k c h=>by cases h;exact hB.size⟩
 have Yi:Hid (∀w' n m,Bw w w'->dV q x=[n,m]->P (.returned (.slice (some ⟨w'.heap.size,0,none⟩) 2 2)) (w'.alloc (.cells #[.int .i64 n,.int .i64 m] 3))):=by
  refine Lh (λw' n m hB hq=>?_);rw[hP,hq];exact⟨_,rfl,bA.Qt (bg5 w' _),hB.trans (((Below.refl _ w').alloc (bfx _) _).mono hB.size),λa k c h=>by cases h;exact hB.size⟩
 have aQ:Hid (∀w' tv,bA w' tv x.top->Bw w w'->(∀a n c,tv=.slice (some a) n c->w.heap.size<=a.block)->dV q x=x.top->P (.returned tv) w'):=by
  refine Lh (λw' tv hI hB hN hq=>?_);rw[hP,hq];exact⟨tv,rfl,hI,hB,hN⟩
 have VO:Hid (∀w',Bw w w'->Calls prog 32 #[.agg q.cells,.agg #[.int .i64 x.n,.int .i64 x.a,Sk,z1]] w' (bE w' (.bool r1))):=by
  rw[hr1];exact Lh (λw' h=>nk w' q x Sk z1 (h1.below h) k1 hn1)
 have HF:Hid (r1=true->q.bB=true/\(0<=x.n/\x.n<=1073741824)/\(-4398046511104<=x.a/\x.a<=4398046511104)):=Lh (λe=>by
  obtain⟨f1,f2,f3,_⟩:=fM (hr1.symm.trans e);exact⟨f1,f2,f3⟩)
 have WM:Hid (∀w',Bw w w'->Calls prog 34 #[Sk] w' (λe w''=>∃v',e=.returned v'/\bA w'' v' x.top/\Bw w' w''/\∀a n c,v'=.slice (some a) n c->w'.heap.size<=a.block)):=Lh (λw' h=>zO w' Sk x.top (h1.below h) hn1);have aK:Hid (∀w',Calls prog 35 #[z1] w' λe w''=>e=.returned (.tuple #[.int .i64 x.u,.int .i64 x.v])/\w''=w'):=Lh (λw'=>Ms w' z1 x.u x.v k1);have TE:Hid (dV q x=if r1=true/\x.n≠0 then (if q.agg=1 then [x.n]else if q.agg=5 then [vk x.a x.n]else if q.agg=6 then x.top else if q.agg=7 then [x.u,x.v]else [x.a])else []):=by
  rw[dV,<-hr1];exact Lh rfl
 obtain⟨n1,a1,l1,u1,v1⟩:=x;simp only at VO TJ aQ HF WM aK TE ⊢;obtain⟨w1,hw1⟩:=Nm ((w.alloc (.cells q.cells 23)).alloc (.cells (bI n1 a1 Sk z1) 53));obtain⟨qb,Sm⟩:=Nm (w.heap.size);obtain⟨b1,hb1⟩:=Nm (w.heap.size+1);have hs1:(w.alloc (.cells q.cells 23)).heap.size=w.heap.size+1:=bq w _;obtain⟨V,hV⟩:=Nm (dV q ⟨n1,a1,l1,u1,v1⟩);rw[<-hV]at Xm TJ Yi aQ TE;obtain⟨Q,hQ⟩:=Nm q;have H1:Hid (dn w1 qb Q/\bW w1 b1 n1 a1 Sk z1/\Bw w w1):=by
  have h:=qK w q n1 a1 Sk z1;rw[hw1,Sm,hb1,hQ];exact Lh h
 clear hP h1 k1 hn1 hr1 hV;obtain⟨kind,size,slide,late,agg,kq⟩:=q;have SV:Hid (∀w',dn w' qb Q->D6 w' qb kind size slide late agg kq):=by
  rw[hQ];exact Lh (λw' h=>h.d6)
 clear hQ;unfold bz.cells at hw1 hs1 VO ⊢;unfold bI at hw1 ⊢;simp only at TE HF;obtain⟨d0,d1,d2,d3,d4,d5⟩:=SV.out w1 H1.out.1;obtain⟨f0,f1,f2,f3⟩:=H1.out.2.1.d4;go_enter func19,ntmps19;go_upto_region 1 with(fail);rw[<-hw1,<-hb1,<-Sm];clear hw1 Sm hb1 hs1;go_wp2_with(fail);refine(VO.out w1 H1.out.2.2).mono ?_;rintro e w2 ⟨rfl,hB⟩;have H2:Hid (dn w2 qb Q/\bW w2 b1 n1 a1 Sk z1/\Bw w w2):=by
  obtain⟨j1,j2,j3⟩:=H1.out;exact Lh ⟨j1.below hB,j2.below hB,Tb j3 hB⟩
 clear hB d0 d1 d2 d3 d4 d5 f0 f1 f2 f3 H1 VO;dsimp only;obtain⟨d0,d1,d2,d3,d4,d5⟩:=SV.out w2 H2.out.1;obtain⟨f0,f1,f2,f3⟩:=H2.out.2.1.d4
 cases r1 with
 | false=>
  have HZ:=Lh (Xm.out w2 H2.out.2.2 (by rw[TE.out];simp))
  go_wp2_with(fail);exact HZ.out
 | true=>
 by_cases hn:n1=0
 ·subst hn;have HZ:=Lh (Xm.out w2 H2.out.2.2 (by rw[TE.out];simp))
  go_wp2_with(fail);exact HZ.out
 obtain⟨HF1,⟨hn0,hn2⟩,ha0,ha1⟩:=HF.out (by simp)
 have hnb:=Lh (bfy hn (bfy hn0 (bfy hn2 (bfy ha0 ha1))));clear HF HF1 hn0 hn2 ha0 ha1;have en:(n1==0)=false:=by simpa using hn
 by_cases e1:agg=1
 ·subst e1;have HZ:=Lh (TJ.out w2 n1 H2.out.2.2 (by rw[TE.out];simp[hnb.out.1]))
  go_wp2_with(fail);exact HZ.out
 have g1:(agg==1)=false:=by simpa using e1
 by_cases e5:agg=5
 ·subst e5;have HZ:=Lh (TJ.out w2 (vk a1 n1) H2.out.2.2 (by rw[TE.out];simp[hnb.out.1]))
  have HD:=Lh (Ll w2 a1 n1 ⟨hnb.out.2.2.2.1,hnb.out.2.2.2.2⟩ (by have:=hnb.out;omega))
  go_upto_region 7 with(fail);refine bg4 ?_
  iterate 12 go_step
  refine wpList_plain rfl λK hK=>?_;go_step;refine HD.out.mono ?_;rintro e w' ⟨rfl,hw'⟩;subst w';refine hK _ _ ?_;clear hK
  iterate 6 go_step
  go_wp2_with(fail);exact HZ.out
 have g5:(agg==5)=false:=by simpa using e5
 by_cases e6:agg=6
 ·subst e6;go_wp2_with(fail);refine(WM.out w2 H2.out.2.2).mono ?_;rintro e w3 ⟨v',rfl,hI,hB,hN⟩;have HZ:=Lh (aQ.out w3 v' hI (H2.out.2.2.trans (hB.mono H2.out.2.2.size)) (λa n c e=>bgn H2.out.2.2.size (hN a n c e)) (by rw[TE.out];simp[hnb.out.1]))
  clear hI hB hN;go_wp2_with(fail);exact HZ.out
 have g6:(agg==6)=false:=by simpa using e6
 by_cases e7:agg=7
 ·subst e7;have HZ:=Lh (Yi.out w2 u1 v1 H2.out.2.2 (by rw[TE.out];simp[hnb.out.1]))
  go_wp2_with(fail);refine(aK.out w2).mono ?_;rintro e w' ⟨rfl,hw'⟩;subst w';dsimp only;go_wp2_with(fail);exact HZ.out
 have g7:(agg==7)=false:=by simpa using e7
 have HZ:=Lh (TJ.out w2 a1 H2.out.2.2 (by rw[TE.out];simp[hnb.out.1,e1,e5,e6,e7]))
 go_wp2_with(fail);exact HZ.out
structure bH where
 w:bg
 a:dS
 r:Int
deriving DecidableEq
def sM:bH:=⟨bX,dP,0⟩
structure di where
 mark:Int
 panes:List bH
deriving DecidableEq
structure dB where
 late:Bool
 item:bN
 w:bg
 r:Int
 v:List Int
def xU:di:=⟨-1,[]⟩
def fI(l:List bH):List bg:=l.map bH.w
def yM(q:bz)(w:bg):Bool:=if q.kind=3 then decide (q.size<=w.hi-w.lo)else decide (w∈lM q w.key w.lo)
def jY(q:bz)(p:bH):Bool:=p.w.bB && (yM q p.w && (decide (0<p.a.n) && p.a.bB q))
def kY(q:bz)(p:bH)(mark:Int):Bool:=!gy q p.w mark && (decide (0<=p.r/\p.r<=1073741824) && (ji p.w mark==decide (0<p.r)))
def fH(q:bz)(l:List bH):Bool:=if q.kind=3 then decide (dD (fI l))else decide ((fI l).Pairwise bJ)
def fQ(q:bz)(s:di):Bool:=
 q.bB && (decide (-1<=s.mark/\s.mark<=1099511627776) && (decide (s.panes.length<=256) && (s.panes.all (λp=>jY q p && kY q p s.mark) && fH q s.panes)))
def lK(q:bz)(w:bg)(p:bH):Bool:=if q.kind=3 then dK p.w w else decide (p.w=w)
def dX(q:bz)(l:List bH)(w:bg):List bH:=l.filter (lK q w)
def gK(q:bz)(l:List bH)(w:bg):List bH:=l.filter λp=> !lK q w p
def dN(q:bz)(l:List bH)(w:bg):bg:=if q.kind=3 then became (fI l) w else w
def jR:List bH->bH->List bH
 | [],p=>[p]
 | x::l,p=>if bJ p.w x.w then p::x::l else x::jR l p
def dY(q:bz)(b:bg):List bH->dS × Int->dS × Int × Int
 | [],p=>(p.1,p.2,0)
 | o::l,p=>if (dA q p.1 o.a).2=0 then dY q b l ((dA q p.1 o.a).1,if o.w=b then o.r else p.2)else (dP,0,(dA q p.1 o.a).2)
def dJ(q:bz)(b:bg)(gave:List bH)(v:Int):bH × Int:=
 if (dY q b gave (dP,0)).2.2=0 then
  (if (jV q (dY q b gave (dP,0)).1 v).2=0 then (⟨b,(jV q (dY q b gave (dP,0)).1 v).1,(dY q b gave (dP,0)).2.1⟩,0)else (sM,(jV q (dY q b gave (dP,0)).1 v).2))
 else (sM,(dY q b gave (dP,0)).2.2)
def kS(q:bz)(p:bH):dB:=⟨false,kz,p.w,p.r,dV q p.a⟩
def sj(x:bN):dB:=⟨true,x,bX,0,[]⟩
structure kg where
 panes:List bH
 outs:List dB
 late:Bool
 e:Int
def fC(p:bH)(mark:Int):bH:=if ji p.w mark=true then ⟨p.w,p.a,p.r+1⟩else p
def kW(q:bz)(mark v:Int)(c:kg)(w:bg):kg:=
 if gy q (dN q c.panes w) mark=true then c
 else if (dJ q (dN q c.panes w) (dX q c.panes w) v).2≠0 then ⟨[],[],false,(dJ q (dN q c.panes w) (dX q c.panes w) v).2⟩
 else if 1073741824<(fC (dJ q (dN q c.panes w) (dX q c.panes w) v).1 mark).r then ⟨[],[],false,20⟩
 else ⟨jR (gK q c.panes w) (fC (dJ q (dN q c.panes w) (dX q c.panes w) v).1 mark),c.outs++(if ji (dN q c.panes w) mark=true then [kS q (fC (dJ q (dN q c.panes w) (dX q c.panes w) v).1 mark)]else []),false,0⟩
def dC(q:bz)(mark v:Int):List bg->kg->kg
 | [],c=>c
 | w::l,c=>if (kW q mark v c w).e=0 then dC q mark v l (kW q mark v c w)else kW q mark v c w
def xE:di:=⟨0,[]⟩
def gQ(q:bz)(s:di)(x:bN):di × List dB × Int:=
 if (dC q s.mark x.value (lM q x.key x.time) ⟨s.panes,[],true,0⟩).e≠0 then (xE,[],(dC q s.mark x.value (lM q x.key x.time) ⟨s.panes,[],true,0⟩).e)
 else if (dC q s.mark x.value (lM q x.key x.time) ⟨s.panes,[],true,0⟩).late=true then (s,[sj x],0)
 else if 256<(dC q s.mark x.value (lM q x.key x.time) ⟨s.panes,[],true,0⟩).panes.length then (xE,[],30)
 else (⟨s.mark,(dC q s.mark x.value (lM q x.key x.time) ⟨s.panes,[],true,0⟩).panes⟩,(dC q s.mark x.value (lM q x.key x.time) ⟨s.panes,[],true,0⟩).outs,0)
def fV(t:Int)(p:bH):Bool:=decide (p.r=0) && ji p.w t
def jc(t:Int)(p:bH):bH:=if fV t p=true then ⟨p.w,p.a,1⟩else p
def si:List dB->dB->List dB
 | [],p=>[p]
 | x::l,p=>if ve p.w x.w<0 then p::x::l else x::si l p
def pU(l:List dB):List dB:=l.foldl si []
def gZ(q:bz)(t:Int)(l:List bH):List dB:=(l.filter (fV t)).map λp=>kS q (jc t p)
def kT(q:bz)(t:Int)(l:List bH):List bH:=(l.map (jc t)).filter λp=> !gy q p.w t
def gY(q:bz)(s:di)(t:Int):di × List dB:=
 if t<=s.mark then (s,[])else (⟨t,kT q t s.panes⟩,pU (gZ q t s.panes))
def dR(q:bz)(s:di)(x:bN):di × List dB × Int:=
 if x.bB=true then (if x.kind=1 then gQ q s x else ((gY q s x.time).1,(gY q s x.time).2,0))else (xE,[],2)
structure kC where
 s:di
 outs:List dB
 n:Int
 e:Int
def vP(q:bz):di->List dB->Int->List bN->kC
 | s,o,n,[]=>⟨s,o,n,0⟩
 | s,o,n,x::l=>if (dR q s x).2.2=0 then vP q (dR q s x).1 (o++(dR q s x).2.1) (n+1) l else ⟨s,o,n,(dR q s x).2.2⟩
def qB(q:bz)(s:di)(l:List bN):kC:=if l≠[]/\fQ q s=false then ⟨s,[],0,2⟩else vP q s [] 0 l
end Go.Proofs.YtjeeghafachebaaGreat
