/- 22. -/
import Derived.Test.YtgfmbkoieacgoaaGreatDoorW21
set_option maxRecDepth 100000
set_option maxHeartbeats 16000000
namespace Go.Proofs.YtgfmbkoieacgoaaGreatDoor
open Go Go.RowKit Go.Proofs.Tryz
theorem zV(k:List (BitVec 8))(a b:Int):prog.built 131 [(0,.agg #[Sv k,.int .i64 a,.int .i64 b])]=some #[Sv k,.int .i64 a,.int .i64 b,.int .i64 0,.int .i64 0,.slice none 0 0,.complex .f64 0 0,.int .i64 0]:=by kernel_rfl
theorem nV:prog.built 131 []=some dh.cells:=by kernel_rfl
theorem MC(q:bu)(x y:fP):(fD q x y).1.top.length<=8:=by
 unfold fD
 split
 ·split
  ·rename_i h;exact MX h.2
  simp[dY]
 simp[dY]
theorem pJ {c:Array Oper} {b:List Oper} {o:Oper} {a:Act} {w:World} {Q:Exit->Act->World->Prop}(e:o.guard=none)(x y:Operand)(s:o.op=.store 120 x y)(g:Nat)(u:bn)(m:fP)(d z:Value)(j:d.oneCell'=true)(k:z.oneCell'=true)
  (D:a.eval x=.pointer (some ⟨g,3,none⟩)) (E:a.eval y=.agg (bJ m.n m.a d z)) (l:dw w g u)
  (h:∀w',dw w' g ⟨⟨u.p.w,m,u.p.r⟩,d,z,j,k⟩->w.grownBy w' (some g)->wpList prog c Q b (a.put o.dst undef) w'):wpList prog c Q (o::b) a w:=by
 refine wpList_store_at e 120 x y s g 3 [.int .i64 m.n,.int .i64 m.a,d,z] D E 131 u.cells l bW (by show 3+4<=8;decide) ?_ ?_
 ·intro v q;simp only[bf2,bf9,or_false]at q;rcases q with rfl | rfl | rfl | rfl
  ·rfl
  ·rfl
  ·exact j
  exact k
 exact h _ (setRow_heap w g u.cells _ _ _ l) (bD _ _ _)
theorem dw.WO {w:World} {b:Nat} {x:bn}(h:dw w b x)(r:Int):dw (w.setCell ⟨b,7,none⟩ (.int .i64 r)) b ⟨⟨x.p.w,x.p.a,r⟩,x.tv,x.z,x.ht,x.hz⟩:=by
 unfold dw at*;rw[setCell_eq_setRow w b 7 _ _ (0,0) _ h];exact setRow_heap w b _ _ _ _ h
def Wh(w:World)(tv:Value):Prop:=∀a n c,tv=.slice (some a) n c->w.heap.size<=a.block
def rC(w:World)(p:bY)(er:Int)(e:Ending)(w':World):Prop:=∃x:bn,x.p=p/\e=.returned (.tuple #[.agg x.cells,.int .i64 er])/\di w' x/\Bw w w'/\Wh w x.tv
def RV(w:World)(qb wb rb gb:Nat)(Q:bu)(W:bf)(X:bn)(wr:World):Prop:=dB wr qb Q/\dH wr wb W/\dw wr rb dh/\dw wr gb X/\di wr X/\Wh w X.tv/\(∀a n c,X.tv=.slice (some a) n c->X.p.a.top≠[]->gb<a.block)/\Bw w wr
theorem RV.below {w:World} {b c d e:Nat} {Q:bu} {W:bf} {X:bn} {wr j:World}(h:RV w b c d e Q W X wr)(a:Bw wr j):RV w b c d e Q W X j:=
 ⟨h.1.below a,h.2.1.below a,h.2.2.1.below a,h.2.2.2.1.below a,h.2.2.2.2.1.below a,h.2.2.2.2.2.1,h.2.2.2.2.2.2.1,h.2.2.2.2.2.2.2.trans (a.mono h.2.2.2.2.2.2.2.size)⟩
def WX(w:World)(qb wb rb gb:Nat)(q:bu)(W:bf)(l:List bY)(s11 s18:Value)(wr:World):Prop:=∃i:Nat,i<=l.length/\s11=.int .i64 0/\s18=.int .i64 (i:Int)/\∃X:bn,X.p.w=W/\X.p.a.top.length<=8/\ji q W l (dY,0)=ji q W (l.drop i) (X.p.a,X.p.r)/\RV w qb wb rb gb q W X wr
theorem Tz {q:bu} {b:bf} {l:List bY} {i:Nat} {x:bY}(h:l[i]? =some x)(p:fP × Int):ji q b (l.drop i) p=if (fD q p.1 x.a).2=0 then ji q b (l.drop (i+1)) ((fD q p.1 x.a).1,if x.w=b then x.r else p.2)else (dY,0,(fD q p.1 x.a).2):=by
 have c:=(List.getElem?_eq_some_iff.1 h);rw[List.drop_eq_getElem_cons c.1,c.2];rfl
theorem P9(w:World)(q:bu)(x:bf):
  let W:=((w.alloc (.cells q.cells 23)).alloc (.cells x.cells 34)).alloc (.cells #[.string ⟨#[]⟩,.int .i64 0,.int .i64 0,.int .i64 0,.int .i64 0,.slice none 0 0,.complex .f64 0 0,.int .i64 0] 131)
  dB W w.heap.size q/\dH W (w.heap.size+1) x/\dw W (w.heap.size+2) dh/\Bw w W/\W.heap.size=w.heap.size+3:=by
 intro W;obtain⟨c,d,e⟩:=KW w q x;have b:((w.alloc (.cells q.cells 23)).alloc (.cells x.cells 34)).heap.size=w.heap.size+2:=by rw[bg,bg]
 have a:=(Below.refl _ ((w.alloc (.cells q.cells 23)).alloc (.cells x.cells 34))).alloc (bfx _) (.cells #[.string ⟨#[]⟩,.int .i64 0,.int .i64 0,.int .i64 0,.int .i64 0,.slice none 0 0,.complex .f64 0 0,.int .i64 0] 131);refine⟨c.below a,d.below a,?_,Tb e a,by show(World.alloc _ _).heap.size=_;rw[bg,b]⟩
 rw[<-b];exact bg5 _ _
theorem MM(w:World)(q:bu)(W:bf)(sa:Option Addr)(sc:Nat)(l:List bn)(v:Int)(hA:dS w sa l)(hG:∀x∈l,di w x)(hF:tY l):
  Calls prog 186 #[.agg q.cells,.agg W.cells,.slice sa l.length sc,.int .i64 v] w (rC w (dK q W (l.map bn.p) v).1 (dK q W (l.map bn.p) v).2):=by
 obtain⟨s,ah⟩:=Nm (l.map bn.p);rw[<-ah];obtain⟨n,hN⟩:=Nm (l.length);obtain⟨P,hP⟩:=Nm (rC w (dK q W s v).1 (dK q W s v).2);rw[<-hP,<-hN];have YU:Hid (∀wz D,dK q W s v=(sH,D)->Bw w wz->P (.returned (.tuple #[.agg dh.cells,.int .i64 D])) wz):=Lh (λwz D h hB=>by
  rw[hP,h];exact⟨dh,rfl,rfl,⟨bC.nil _,jd⟩,hB,λa n c h=>by cases h⟩)
 have XY:Hid (∀wz (x:bn),dK q W s v=(x.p,0)->di wz x->Wh w x.tv->Bw w wz->P (.returned (.tuple #[.agg x.cells,.int .i64 0])) wz):=Lh (λwz x h hG hN hB=>by
  rw[hP,h];exact⟨x,rfl,rfl,hG,hB,hN⟩)
 have oG:Hid (dK q W s v=if (ji q W s (dY,0)).2.2=0 then (if (lY q (ji q W s (dY,0)).1 v).2=0 then (⟨W,(lY q (ji q W s (dY,0)).1 v).1,(ji q W s (dY,0)).2.1⟩,0)else (sH,(lY q (ji q W s (dY,0)).1 v).2))else (sH,(ji q W s (dY,0)).2.2)):=Lh rfl
 obtain⟨w1,ag⟩:=Nm (((w.alloc (.cells q.cells 23)).alloc (.cells W.cells 34)).alloc (.cells #[.string ⟨#[]⟩,.int .i64 0,.int .i64 0,.int .i64 0,.int .i64 0,.slice none 0 0,.complex .f64 0 0,.int .i64 0] 131));obtain⟨qb,XW⟩:=Nm (w.heap.size);obtain⟨wb,al⟩:=Nm (w.heap.size+1);obtain⟨k,am⟩:=Nm (w.heap.size+2);have H1:Hid (dB w1 qb q/\dH w1 wb W/\dw w1 k dh/\Bw w w1/\w1.heap.size=w.heap.size+3):=by rw[ag,XW,al,am];exact Lh (P9 w q W)
 have S:Hid (w.heap.size<=qb/\qb<wb/\wb<k/\k<w1.heap.size):=Lh ⟨by omega,by omega,by omega,by have:=H1.out.2.2.2.2;omega⟩
 have HA:Hid (dS w sa l/\(∀x∈l,di w x)/\tY l):=Lh ⟨hA,hG,hF⟩;have aS:n<=1000000:=by have:=hF.2;omega
 have HN:Hid (n=l.length/\s.length=n):=Lh ⟨hN,by rw[ah,bfz,hN]⟩
 have OI:Hid (∀(i:Nat) (x:bn),l[i]? =some x->s[i]? =some x.p):=Lh (λi x h=>by rw[ah,bgf,h];rfl)
 obtain⟨VQ,Yi⟩:=Nm (Value.agg q.cells);have aB:Hid (∀b (x y:fP) XX z1 XZ z2,bC b XX x.top->dN z1 x.u x.v->bC b XZ y.top->dN z2 y.u y.v->x.top.length<=1000000->y.top.length<=1000000->Calls prog 223 #[VQ,.agg (bJ x.n x.a XX z1),.agg (bJ y.n y.a XZ z2)] b (kT b (fD q x y).1 (fD q x y).2)):=by
  rw[Yi];exact Lh (λb x y XX z1 XZ z2 h1 h2 h3 h4 h5 h6=>zS b q x y XX z1 XZ z2 h1 h3 h2 h4 h5 h6)
 have Iu:Hid (∀b (x:fP) XX z1,bC b XX x.top->dN z1 x.u x.v->x.top.length<=1000000->Calls prog 224 #[VQ,.agg (bJ x.n x.a XX z1),.int .i64 v] b (kT b (lY q x v).1 (lY q x v).2)):=by
  rw[Yi];exact Lh (λb x XX z1 h1 h2 h3=>Sz b q x XX z1 v h1 h2 h3)
 obtain⟨Q,hQ⟩:=Nm q;rw[<-hQ]at H1 aB Iu YU XY oG;obtain⟨J,size,m,L,agg,kq⟩:=q;obtain⟨U,Y,Z⟩:=W;have Zi:Hid (VQ=.agg #[.int .i64 J,.int .i64 size,.int .i64 m,.int .i64 L,.int .i64 agg,.int .i64 kq]):=Lh Yi;have Yy:Hid (∀b,dB b qb Q->D6 b qb J size m L agg kq):=by rw[hQ];exact Lh (λb h=>h.d6)
 clear Yi hQ hA hG hF hP hN ah;obtain⟨W,hW⟩:=Nm (bf.mk U Y Z);rw[<-hW]at H1 YU XY oG;have oP:Hid (∀b,dH b wb W->D3 b wb U Y Z):=by rw[hW];exact Lh (λb h=>h.d3)
 have OX:Hid (W.key=U/\W.lo=Y/\W.hi=Z/\W=⟨U,Y,Z⟩):=by rw[hW];exact Lh ⟨rfl,rfl,rfl,rfl⟩
 clear hW;unfold bu.cells bf.cells at ag ⊢;simp only at ag;have aH:(w.alloc (.cells #[.int .i64 J,.int .i64 size,.int .i64 m,.int .i64 L,.int .i64 agg,.int .i64 kq] 23)).heap.size=w.heap.size+1:=bg w _;have aI:((w.alloc (.cells #[.int .i64 J,.int .i64 size,.int .i64 m,.int .i64 L,.int .i64 agg,.int .i64 kq] 23)).alloc (.cells #[Sv U,.int .i64 Y,.int .i64 Z] 34)).heap.size=w.heap.size+2:=by rw[bg,bg]
 go_enter func186,ntmps186;go_upto_region 1 with fail;rw[<-ag,<-am,<-al,<-XW];clear ag am al XW aH aI;obtain⟨e0,e1,e2⟩:=oP.out w1 H1.out.2.1;refine bg4 ?_
 iterate 3 go_step
 refine bV (by rfl) 131 #[(0,.tmp 14)] rfl #[Sv U,.int .i64 Y,.int .i64 Z,.int .i64 0,.int .i64 0,.slice none 0 0,.complex .f64 0 0,.int .i64 0] (by first | exact zV U Y Z | (simp only[bgb,bgc,bge];exact zV U Y Z) | kernel_rfl) ?_
 iterate 3 go_step
 obtain⟨X0,ac⟩:=Nm (⟨⟨⟨U,Y,Z⟩,dY,0⟩,bM,dC,rfl,rfl⟩:bn);have ZV:(#[Sv U,.int .i64 Y,.int .i64 Z,.int .i64 0,.int .i64 0,.slice none 0 0,.complex .f64 0 0,.int .i64 0]:Array Value)=X0.cells:=by rw[ac];rfl
 rw[ZV];refine bg6 rfl _ _ _ rfl w1.heap.size X0.cells rfl rfl 131 dh.cells (bg5 w1 _) fK rfl (fV _) ?_;obtain⟨w2,an⟩:=Nm ((w1.alloc (Obj.cells #[.string ⟨#[]⟩,.int .i64 0,.int .i64 0,.int .i64 0,.int .i64 0,.slice none 0 0,.complex .f64 0 0,.int .i64 0] 131)).setRow w1.heap.size X0.cells);obtain⟨o,ao⟩:=Nm (w1.heap.size);have H2:Hid (RV w qb wb k o Q W X0 w2/\k<o/\w1.heap.size<=w2.heap.size):=by
  obtain⟨k1,k2⟩:=jk w1 X0;obtain⟨j1,j2,j3,j4,j5⟩:=H1.out;have hb:=S.out;rw[an,ao];refine Lh ⟨⟨j1.below k2,j2.below k2,j3.below k2,k1,?_,?_,?_,Tb j4 k2⟩,by omega,k2.size⟩
  ·rw[ac];exact⟨bC.nil _,jd⟩
  ·rw[ac];exact λa n c h=>by cases h
  rw[ac];exact λa n c h=>by cases h
 have aJ:Hid (X0.p.w=W/\X0.p.a=dY/\X0.p.r=0):=by rw[ac,OX.out.2.2.2];exact Lh ⟨rfl,rfl,rfl⟩
 rw[<-an,<-ao];clear an ao ZV ac e0 e1 e2 H1;go_wp2_with fail;go_loopw[11,18] (WX w qb wb k o Q W s) (λ_ i _=>n-(intOf i).toNat)
 case atStart=>
  obtain⟨x1,x2,x3⟩:=aJ.out;exact⟨0,bgi _,rfl,rfl,X0,x1,by rw[x2];simp[dY],by rw[x2,x3,List.drop_zero],H2.out.1⟩
 case round=>
  obtain⟨i,hi,rfl,rfl,X,aC,aD,aE,hI⟩:=hrel;rw[HN.out.2]at hi;have HO:=Lh (bfy aC (bfy aD (bfy aE hI)));clear aC aD aE hI;by_cases ai:i<n
  ·have aT:(0:Int)<=(i:Int)/\(i:Int)<(n:Int):=by omega
   obtain⟨x,pa,oa,hx,aK,c0,c1,c2,c3,c4,c5,c6,c7⟩:=(HA.out.1.below HO.out.2.2.2.2.2.2.2.2.2.2).get (t:=i) (by rw[<-HN.out.1];exact ai)
   subst aK;have HX:Hid (x∈l/\s[i]? =some x.p/\i<n):=Lh ⟨bf3 hx,OI.out i x hx,ai⟩;clear hx hi ai;obtain⟨E,ae⟩:=Nm (x:bn);rw[<-ae]at HX;obtain⟨⟨⟨xk,xl,xh⟩,⟨xn,xa,xt,xu,xv⟩,xr⟩,X6,xz,X9,Yb⟩:=x;simp only at c0 c1 c2 c3 c4 c5 c6 c7;go_upto_region 4 with fail;refine bg4 ?_
   iterate 9 go_step
   refine bg6 rfl _ _ _ rfl wr.heap.size (bn.mk ⟨⟨xk,xl,xh⟩,⟨xn,xa,xt,xu,xv⟩,xr⟩ X6 xz X9 Yb).cells rfl rfl 131 dh.cells (bg5 wr _) fK rfl (fV _) ?_;obtain⟨wx,ap⟩:=Nm ((wr.alloc (Obj.cells #[.string ⟨#[]⟩,.int .i64 0,.int .i64 0,.int .i64 0,.int .i64 0,.slice none 0 0,.complex .f64 0 0,.int .i64 0] 131)).setRow wr.heap.size (bn.mk ⟨⟨xk,xl,xh⟩,⟨xn,xa,xt,xu,xv⟩,xr⟩ X6 xz X9 Yb).cells);obtain⟨xb,ar⟩:=Nm (wr.heap.size);have X3:Hid (dw wx xb E/\RV w qb wb k o Q W X wx/\xb≠o/\di wx E):=by
    obtain⟨k1,k2⟩:=jk wr (bn.mk ⟨⟨xk,xl,xh⟩,⟨xn,xa,xt,xu,xv⟩,xr⟩ X6 xz X9 Yb);have h:=HO.out.2.2.2;have hl:=h.2.2.2.1.lt;rw[ap,ar,ae];have hg:=HA.out.2.1 _ (by rw[ae]at HX;exact HX.out.1)
    exact Lh ⟨k1,h.below k2,by omega,hg.below (h.2.2.2.2.2.2.2.trans (k2.mono h.2.2.2.2.2.2.2.size))⟩
   rw[<-ap,<-ar];clear ap ar c0 c1 c2 c3 c4 c5 c6 c7;obtain⟨mg,Ig⟩:=Nm ((fD Q X.p.a E.p.a).1);obtain⟨D,aa⟩:=Nm ((fD Q X.p.a E.p.a).2);have au:mg.top.length<=8:=by rw[Ig];exact MC _ _ _
   have HM:Hid (Calls prog 223 #[VQ,.agg (bJ X.p.a.n X.p.a.a X.tv X.z),.agg (bJ E.p.a.n E.p.a.a E.tv E.z)] wx (kT wx mg D)):=by
    obtain⟨_,h2,_⟩:=X3.out;rw[Ig,aa];exact Lh (aB.out wx X.p.a E.p.a X.tv X.z E.tv E.z h2.2.2.2.2.1.1 h2.2.2.2.2.1.2 X3.out.2.2.2.1 X3.out.2.2.2.2 (by have:=HO.out.2.1;omega) (HA.out.2.2.1 _ HX.out.1).2)
   have AU:Hid (ji Q W s (dY,0)=(if D=0 then ji Q W (s.drop (i+1)) (mg,if E.p.w=W then E.p.r else X.p.r)else (dY,0,D))/\mg.top.length<=8):=by
    rw[HO.out.2.2.1,Tz HX.out.2.1,Ig,aa];refine Lh ⟨rfl,?_⟩;rw[Ig]at au;exact au
   clear Ig aa au;have ZP:Hid (∀b,dw b xb E->D8 b xb (bn.mk ⟨⟨xk,xl,xh⟩,⟨xn,xa,xt,xu,xv⟩,xr⟩ X6 xz X9 Yb)):=by rw[ae];exact Lh (λb h=>h.d8)
   have Yp:Hid (E=(bn.mk ⟨⟨xk,xl,xh⟩,⟨xn,xa,xt,xu,xv⟩,xr⟩ X6 xz X9 Yb)):=Lh ae;clear ae;have aL:Hid (Value.agg (bJ E.p.a.n E.p.a.a E.tv E.z)=.agg #[.int .i64 xn,.int .i64 xa,X6,xz]):=by rw[Yp.out];exact Lh rfl
   have uM:=Lh (bfy HO.out.1 HO.out.2.1);obtain⟨F,ZG⟩:=Nm (X:bn);rw[<-ZG]at X3 HM AU uM;obtain⟨⟨⟨gk,gl,gh⟩,⟨gn,ga,gt,gu,gv⟩,gr⟩,aN,gz,EH,EI⟩:=X;have A8:Hid (∀b,dw b o F->D8 b o ⟨⟨⟨gk,gl,gh⟩,⟨gn,ga,gt,gu,gv⟩,gr⟩,aN,gz,EH,EI⟩):=by rw[ZG];exact Lh (λb h=>h.d8)
   have OV:Hid (Value.agg (bJ F.p.a.n F.p.a.a F.tv F.z)=.agg #[.int .i64 gn,.int .i64 ga,aN,gz]):=by rw[ZG];exact Lh rfl
   clear ZG HO;have aM:Hid (Calls prog 223 #[.agg #[.int .i64 J,.int .i64 size,.int .i64 m,.int .i64 L,.int .i64 agg,.int .i64 kq],.agg #[.int .i64 gn,.int .i64 ga,aN,gz],.agg #[.int .i64 xn,.int .i64 xa,X6,xz]] wx (kT wx mg D)):=by
    have h:=HM.out;rw[Zi.out,aL.out,OV.out]at h;exact Lh h
   clear HM;obtain⟨d0,d1,d2,d3,d4,d5⟩:=Yy.out wx X3.out.2.1.1;obtain⟨e0,e1,e2,e3,e4,e5,e6,e7⟩:=A8.out wx X3.out.2.1.2.2.2.1;obtain⟨f0,f1,f2,f3,f4,f5,f6,f7⟩:=ZP.out wx X3.out.1;go_upto_region 5 with fail;refine bg4 ?_
   iterate 15 go_step
   refine wpList_plain rfl λK hK=>?_;go_step;refine aM.out.mono ?_;rintro e w3 ⟨tv,z,rfl,hI,hZ,hB,af⟩;refine hK _ _ ?_;clear hK;have H3:Hid (dw w3 xb E/\RV w qb wb k o Q W F w3/\xb≠o/\bC w3 tv mg.top/\dN z mg.u mg.v/\∀a n c,tv=.slice (some a) n c->wx.heap.size<=a.block):=Lh ⟨X3.out.1.below hB,X3.out.2.1.below hB,X3.out.2.2.1,hI,hZ,af⟩;have Ee:Hid (o<wx.heap.size/\w.heap.size<=wx.heap.size):=Lh ⟨X3.out.2.1.2.2.2.1.lt,X3.out.2.1.2.2.2.2.2.2.2.size⟩;obtain⟨ht,hz⟩:tv.oneCell'=true/\z.oneCell'=true:=⟨hI.one,hZ.1.one⟩;clear hI hZ hB af d0 d1 d2 d3 d4 d5 e0 e1 e2 e3 e4 e5 e6 e7 f0 f1 f2 f3 f4 f5 f6 f7
   iterate 12 go_step
   refine pJ rfl (.tmp 31) (.tmp 29) rfl o F mg tv z ht hz rfl rfl H3.out.2.1.2.2.2.1 ?_;intro w4 ab d;obtain⟨M,YM⟩:=Nm (⟨⟨F.p.w,mg,F.p.r⟩,tv,z,ht,hz⟩:bn);rw[<-YM]at ab;have N:Hid (dw w4 xb E/\RV w qb wb k o Q W M w4):=by
    obtain⟨j1,⟨k1,k2,k3,k4,k5,k6,k7,k8⟩,j3,j4,j5,j6⟩:=H3.out;have hb:=S.out;have hs:=Ee.out;have av:=H2.out.2.1;have hn:∀a n c,tv=.slice (some a) n c->o<a.block/\w.heap.size<=a.block:=λa n c h=>by have:=j6 a n c h;omega
    refine Lh ⟨j1.grown d (by simp;exact j3),dB.below' k1 d (by omega),k2.grown d (by simp;omega),k3.grown d (by simp;omega),ab,?_,?_,?_,k8.trans (bQ d (by omega) k8.size)⟩
    ·rw[YM];exact⟨j4.grown d (λa n c h _=>by have:=(hn a n c h).1;omega),j5⟩
    ·rw[YM];exact λa n c h=>(hn a n c h).2
    rw[YM];exact λa n c h _=>(hn a n c h).1
   have O:Hid (M.p.w=W/\M.p.a=mg/\M.p.r=F.p.r):=by rw[YM];exact Lh ⟨uM.out.1,rfl,rfl⟩
   clear YM ab d H3 Ee X3;by_cases I:D=0
   ·subst I;have AV:Hid (ji Q W s (dY,0)=ji Q W (s.drop (i+1)) (mg,if E.p.w=W then E.p.r else F.p.r)):=Lh (by have h:=AU.out.1;rwa [if_pos rfl]at h)
    go_upto_region 8 with fail;obtain⟨f0,f1,f2,f3,f4,f5,f6,f7⟩:=ZP.out w4 N.out.1;obtain⟨e0,e1,e2⟩:=oP.out w4 N.out.2.2.1;obtain⟨aw,ax⟩:=Nm (ku ⟨xk,xl,xh⟩ ⟨U,Y,Z⟩);have aO:∀b,(binOp .eql 34 (.agg #[Sv xk,.int .i64 xl,.int .i64 xh]) (.agg #[Sv U,.int .i64 Y,.int .i64 Z])).run prog b=.ok (.bool aw) b:=λb=>by rw[ax];exact jS b ⟨xk,xl,xh⟩ ⟨U,Y,Z⟩
    have aP:∀b op o1 o2,(eqGuard op 34 o1 o2 (.agg #[Sv xk,.int .i64 xl,.int .i64 xh]) (.agg #[Sv U,.int .i64 Y,.int .i64 Z])).run prog b=.ok () b:=λb op o1 o2=>jX b op o1 o2 ⟨xk,xl,xh⟩ ⟨U,Y,Z⟩;have aF:Hid (aw=true↔E.p.w=W):=by
     rw[ax,Yp.out,OX.out.2.2.2];exact Lh (jY _ _)
    clear ax
    cases aw with
    | false=>
     go_wp2_with fail;refine⟨⟨i+1,by rw[HN.out.2];exact HX.out.2.2,rfl,rfl,M,O.out.1,by rw[O.out.2.1];exact AU.out.2,?_,N.out.2⟩,by rw[dO,dO];have:=HX.out.2.2;omega⟩
     rw[AV.out,if_neg (λh=>by have:=aF.out.2 h;simp at this),O.out.2.1,O.out.2.2]
    | true=>
     go_upto_region 9 with fail;have e7:=(N.out.2.2.2.2.1.d8).2.2.2.2.2.2.2;refine bg4 ?_
     iterate 9 go_step
     refine wpList_store1 rfl _ (.tmp 42) (.tmp 41) rfl ⟨o,7,none⟩ (.int .i64 xr) _ rfl rfl rfl rfl sizeOf3 e7 (dw.fro N.out.2.2.2.2.1 7) ?_;obtain⟨w5,aj⟩:=Nm (w4.setCell ⟨o,7,none⟩ (.int .i64 xr));obtain⟨R,YF⟩:=Nm (⟨⟨M.p.w,M.p.a,xr⟩,M.tv,M.z,M.ht,M.hz⟩:bn);have H5:Hid (RV w qb wb k o Q W R w5):=by
      have hg:w4.grownBy w5 (some o):=by rw[aj];exact grown_setCell _ _ _ _
      obtain⟨k1,k2,k3,k4,k5,k6,k7,k8⟩:=N.out.2;have hb:=S.out;have av:=H2.out.2.1;refine Lh ⟨dB.below' k1 hg (by omega),k2.grown hg (by simp;omega),k3.grown hg (by simp;omega),by rw[YF,aj];exact k4.WO xr,?_,by rw[YF];exact k6,by rw[YF];exact k7,k8.trans (bQ hg (by omega) k8.size)⟩
      rw[YF];exact⟨k5.1.grown hg (λa n c h ay=>by have:=k7 a n c h ay;omega),k5.2⟩
     have ak:Hid (R.p.w=W/\R.p.a=mg/\R.p.r=E.p.r):=by rw[YF,Yp.out];exact Lh ⟨O.out.1,O.out.2.1,rfl⟩
     rw[<-aj];clear aj YF e7 e0 e1 e2 f0 f1 f2 f3 f4 f5 f6 f7 aO aP;go_wp2_with fail;refine⟨⟨i+1,by rw[HN.out.2];exact HX.out.2.2,rfl,rfl,R,ak.out.1,by rw[ak.out.2.1];exact AU.out.2,?_,H5.out⟩,by rw[dO,dO];have:=HX.out.2.2;omega⟩
     rw[AV.out,if_pos (aF.out.1 (by simp)),ak.out.2.1,ak.out.2.2]
   have aQ:(D !=0)=true:=bne_iff_ne.2 I;have HE:Hid (dK Q W s v=(sH,D)):=by
    have h:=AU.out.1;rw[if_neg I]at h;rw[oG.out,h];exact Lh (if_neg I)
   clear I;go_upto_region 7 with fail;refine bg4 ?_;refine bV (by rfl) 131 #[] rfl dh.cells (by first | exact nV | (simp only[bgb,bge];exact nV) | kernel_rfl) ?_
   iterate 3 go_step
   refine bg6 rfl _ _ _ rfl k dh.cells rfl rfl 131 dh.cells N.out.2.2.2.1 fK rfl (fV _) ?_;obtain⟨w9,j⟩:=Nm (w4.setRow k dh.cells);have H9:Hid (dw w9 k dh/\P (.returned (.tuple #[.agg dh.cells,.int .i64 D])) w9):=by
    have hg:w4.grownBy w9 (some k):=by rw[j];exact bD _ _ _
    have hb:=S.out;have h8:=N.out.2.2.2.2.2.2.2.2;exact Lh ⟨by rw[j];exact dw.reset N.out.2.2.2.1 dh,YU.out w9 D HE.out (h8.trans (bQ hg (by omega) h8.size))⟩
   rw[<-j];clear j;go_wp2_with fail;exact bodyPost_ret (v:=.tuple #[.agg dh.cells,.int .i64 D]) ((bI (p:=8) (u:=9) (ty:=131) rfl _ _ k 131 dh.cells (0,0) _ rfl H9.out.1 underlying131 rfl fK).trans rfl) rfl H9.out.2
  obtain rfl:i=n:=by omega
  clear ai hi;have aG:s.drop i=[]:=by rw[List.drop_eq_nil_iff];rw[HN.out.2];exact bfx _
  have IB:Hid (ji Q W s (dY,0)=(X.p.a,X.p.r,0)):=by
   have h:=HO.out.2.2.1;rw[aG]at h;exact Lh h
  clear aG;obtain⟨ad,az⟩:=Nm ((lY Q X.p.a v).1);obtain⟨D,aa⟩:=Nm ((lY Q X.p.a v).2);have HI:=Lh HO.out.2.2.2;have HC:Hid (Calls prog 224 #[VQ,.agg (bJ X.p.a.n X.p.a.a X.tv X.z),.int .i64 v] wr (kT wr ad D)):=by
   rw[az,aa];exact Lh (Iu.out wr X.p.a X.tv X.z HI.out.2.2.2.2.1.1 HI.out.2.2.2.2.1.2 (by have:=HO.out.2.1;omega))
  have aA:Hid (dK Q W s v=if D=0 then (⟨W,ad,X.p.r⟩,0)else (sH,D)):=by
   rw[oG.out,IB.out,az,aa];exact Lh (if_pos rfl)
  have uN:=Lh HO.out.1;clear az aa IB HO;obtain⟨F,ZG⟩:=Nm (X:bn);rw[<-ZG]at HI HC aA uN;obtain⟨⟨⟨gk,gl,gh⟩,⟨gn,ga,gt,gu,gv⟩,gr⟩,aN,gz,EH,EI⟩:=X;have A8:Hid (∀b,dw b o F->D8 b o ⟨⟨⟨gk,gl,gh⟩,⟨gn,ga,gt,gu,gv⟩,gr⟩,aN,gz,EH,EI⟩):=by rw[ZG];exact Lh (λb h=>h.d8)
  have OV:Hid (Value.agg (bJ F.p.a.n F.p.a.a F.tv F.z)=.agg #[.int .i64 gn,.int .i64 ga,aN,gz]):=by rw[ZG];exact Lh rfl
  have aR:Hid (Calls prog 224 #[.agg #[.int .i64 J,.int .i64 size,.int .i64 m,.int .i64 L,.int .i64 agg,.int .i64 kq],.agg #[.int .i64 gn,.int .i64 ga,aN,gz],.int .i64 v] wr (kT wr ad D)):=by
   have h:=HC.out;rw[Zi.out,OV.out]at h;exact Lh h
  clear HC ZG;obtain⟨d0,d1,d2,d3,d4,d5⟩:=Yy.out wr HI.out.1;obtain⟨e0,e1,e2,e3,e4,e5,e6,e7⟩:=A8.out wr HI.out.2.2.2.1;go_upto_region 11 with fail;refine bg4 ?_
  iterate 12 go_step
  refine wpList_plain rfl λK hK=>?_;go_step;refine aR.out.mono ?_;rintro e w3 ⟨tv,z,rfl,hI,hZ,hB,af⟩;refine hK _ _ ?_;clear hK;have H3:Hid (RV w qb wb k o Q W F w3/\bC w3 tv ad.top/\dN z ad.u ad.v/\∀a n c,tv=.slice (some a) n c->wr.heap.size<=a.block):=Lh ⟨HI.out.below hB,hI,hZ,af⟩;have Ee:Hid (o<wr.heap.size/\w.heap.size<=wr.heap.size):=Lh ⟨HI.out.2.2.2.1.lt,HI.out.2.2.2.2.2.2.2.size⟩;obtain⟨ht,hz⟩:tv.oneCell'=true/\z.oneCell'=true:=⟨hI.one,hZ.1.one⟩;clear hI hZ hB af d0 d1 d2 d3 d4 d5 e0 e1 e2 e3 e4 e5 e6 e7
  iterate 12 go_step
  refine pJ rfl (.tmp 52) (.tmp 50) rfl o F ad tv z ht hz rfl rfl H3.out.1.2.2.2.1 ?_;intro w4 ab d;obtain⟨M,YM⟩:=Nm (⟨⟨F.p.w,ad,F.p.r⟩,tv,z,ht,hz⟩:bn);rw[<-YM]at ab;have N:Hid (RV w qb wb k o Q W M w4/\∀a n c,M.tv=.slice (some a) n c->wr.heap.size<=a.block):=by
   obtain⟨⟨k1,k2,k3,k4,k5,k6,k7,k8⟩,j4,j5,j6⟩:=H3.out;have hb:=S.out;have hs:=Ee.out;have av:=H2.out.2.1;have hn:∀a n c,tv=.slice (some a) n c->o<a.block/\w.heap.size<=a.block:=λa n c h=>by have:=j6 a n c h;omega
   refine Lh ⟨⟨dB.below' k1 d (by omega),k2.grown d (by simp;omega),k3.grown d (by simp;omega),ab,?_,?_,?_,k8.trans (bQ d (by omega) k8.size)⟩,?_⟩
   ·rw[YM];exact⟨j4.grown d (λa n c h _=>by have:=(hn a n c h).1;omega),j5⟩
   ·rw[YM];exact λa n c h=>(hn a n c h).2
   ·rw[YM];exact λa n c h _=>(hn a n c h).1
   rw[YM];exact j6
  have O:Hid (M.p=⟨W,ad,F.p.r⟩):=by rw[YM,<-uN.out];exact Lh rfl
  clear YM ab d H3 Ee HI;by_cases I:D=0
  ·subst I;have HE:Hid (dK Q W s v=(M.p,0)):=by rw[aA.out,if_pos rfl,O.out];exact Lh rfl
   go_upto_region 14 with fail;obtain⟨R,ZG⟩:=Nm (M:bn);rw[<-ZG]at N HE;obtain⟨⟨⟨gk,gl,gh⟩,⟨gn,ga,gt,gu,gv⟩,gr⟩,aN,gz,EH,EI⟩:=M;have A8:Hid (∀b,dw b o R->D8 b o ⟨⟨⟨gk,gl,gh⟩,⟨gn,ga,gt,gu,gv⟩,gr⟩,aN,gz,EH,EI⟩):=by rw[ZG];exact Lh (λb h=>h.d8)
   have ZV:R.cells=#[Sv gk,.int .i64 gl,.int .i64 gh,.int .i64 gn,.int .i64 ga,aN,gz,.int .i64 gr]:=by rw[ZG];rfl
   obtain⟨e0,e1,e2,e3,e4,e5,e6,e7⟩:=A8.out w4 N.out.1.2.2.2.1;refine bg4 ?_
   iterate 3 go_step
   rw[<-ZV];refine bg6 rfl _ _ _ rfl k R.cells rfl rfl 131 dh.cells N.out.1.2.2.1 fK rfl (fV _) ?_;obtain⟨w9,j⟩:=Nm (w4.setRow k R.cells);have H9:Hid (dw w9 k R/\P (.returned (.tuple #[.agg R.cells,.int .i64 0])) w9):=by
    have hg:w4.grownBy w9 (some k):=by rw[j];exact bD _ _ _
    have hb:=S.out;have av:=H2.out.2.1;obtain⟨k1,k2,k3,k4,k5,k6,k7,k8⟩:=N.out.1;exact Lh ⟨by rw[j];exact k3.reset R,XY.out w9 R HE.out ⟨k5.1.grown hg (λa n c h ay=>by have:=k7 a n c h ay;omega),k5.2⟩ k6 (k8.trans (bQ hg (by omega) k8.size))⟩
   rw[<-j];clear j e0 e1 e2 e3 e4 e5 e6 e7;go_wp2_with fail;exact bodyPost_ret (v:=.tuple #[.agg R.cells,.int .i64 0]) ((bI (p:=8) (u:=9) (ty:=131) rfl _ _ k 131 R.cells (0,0) _ rfl H9.out.1 underlying131 rfl fK).trans rfl) rfl H9.out.2
  have aQ:(D !=0)=true:=bne_iff_ne.2 I;have HE:Hid (dK Q W s v=(sH,D)):=by rw[aA.out,if_neg I];exact Lh rfl
  clear I;go_upto_region 13 with fail;refine bg4 ?_;refine bV (by rfl) 131 #[] rfl dh.cells (by first | exact nV | (simp only[bgb,bge];exact nV) | kernel_rfl) ?_
  iterate 3 go_step
  refine bg6 rfl _ _ _ rfl k dh.cells rfl rfl 131 dh.cells N.out.1.2.2.1 fK rfl (fV _) ?_;obtain⟨w9,j⟩:=Nm (w4.setRow k dh.cells);have H9:Hid (dw w9 k dh/\P (.returned (.tuple #[.agg dh.cells,.int .i64 D])) w9):=by
   have hg:w4.grownBy w9 (some k):=by rw[j];exact bD _ _ _
   have hb:=S.out;have h8:=N.out.1.2.2.2.2.2.2.2;exact Lh ⟨by rw[j];exact dw.reset N.out.1.2.2.1 dh,YU.out w9 D HE.out (h8.trans (bQ hg (by omega) h8.size))⟩
  rw[<-j];clear j;go_wp2_with fail;exact bodyPost_ret (v:=.tuple #[.agg dh.cells,.int .i64 D]) ((bI (p:=8) (u:=9) (ty:=131) rfl _ _ k 131 dh.cells (0,0) _ rfl H9.out.1 underlying131 rfl fK).trans rfl) rfl H9.out.2
theorem bC.qC {w w':World} {v:Value} {l:List Int} {row:Option Nat}(h:bC w v l)(d:w.grownBy w' row)(m:∀a n c,v=.slice (some a) n c->l≠[]->row≠some a.block):bC w' v l:=by
 cases row with
 | none=>exact h.below ⟨d.os,d.tape,d.output,d.size,λk o=>d.block k o (by simp)⟩
 | some b=>exact h.grown d (λa n c e j p=>m a n c e j (by rw[p]))
theorem bC.lt {w:World} {v:Value} {l:List Int}(h:bC w v l) {a:Addr} {n c:Nat}(e:v=.slice (some a) n c)(d:l≠[]):a.block<w.heap.size:=by
 obtain⟨p,q,k,_,j⟩:=h;rcases j with⟨_,j⟩ | ⟨b,o,m,_,j⟩
 ·exact absurd j d
 rw[k]at e;cases e
 cases m
 cases l with
 | nil=>exact absurd rfl d
 | cons y t=>exact block_lt_of_cell (j 0 y rfl)
def jD(w:World)(base:Nat)(v:Value)(l:List bH):Prop:=fU w base v l/\∀x∈l,dL w x/\∀a n c,x.tv=.slice (some a) n c->x.o.v≠[]->v.ownBlock≠some a.block
def gY(w:World)(base:Nat)(v:Value)(l:List bn):Prop:=dm w base v l/\∀x∈l,di w x/\∀a n c,x.tv=.slice (some a) n c->x.p.a.top≠[]->v.ownBlock≠some a.block
theorem jD.push {w w':World} {b:Nat} {v q:Value} {l:List bH} {y:bH}(h:jD w b v l)(r:dL w y)(j:∀a n c,y.tv=.slice (some a) n c->y.o.v≠[]->v.ownBlock≠some a.block)(s:fU w' b q (l++[y]))(u:w.grownBy w' v.ownBlock)(k:q.ownBlock=v.ownBlock∨q.ownBlock=some w.heap.size):jD w' b q (l++[y]):=by
 refine⟨s,λx m=>?_⟩;have d:dL w x/\∀a n c,x.tv=.slice (some a) n c->x.o.v≠[]->v.ownBlock≠some a.block:=by
  rcases List.mem_append.1 m with m | m
  ·exact h.2 x m
  rw[List.mem_singleton.1 m];exact⟨r,j⟩
 refine⟨bC.qC d.1 u d.2,λa n c e p=>?_⟩;rcases k with k | k
 ·rw[k];exact d.2 a n c e p
 rw[k];intro z;have:=bC.lt d.1 e p;have D:=Option.some.inj z;omega
theorem gY.push {w w':World} {b:Nat} {v q:Value} {l:List bn} {y:bn}(h:gY w b v l)(r:di w y)(j:∀a n c,y.tv=.slice (some a) n c->y.p.a.top≠[]->v.ownBlock≠some a.block)(s:dm w' b q (l++[y]))(u:w.grownBy w' v.ownBlock)(k:q.ownBlock=v.ownBlock∨q.ownBlock=some w.heap.size):gY w' b q (l++[y]):=by
 refine⟨s,λx m=>?_⟩;have d:di w x/\∀a n c,x.tv=.slice (some a) n c->x.p.a.top≠[]->v.ownBlock≠some a.block:=by
  rcases List.mem_append.1 m with m | m
  ·exact h.2 x m
  rw[List.mem_singleton.1 m];exact⟨r,j⟩
 refine⟨⟨bC.qC d.1.1 u d.2,d.1.2⟩,λa n c e o=>?_⟩;rcases k with k | k
 ·rw[k];exact d.2 a n c e o
 rw[k];intro z;have:=bC.lt d.1.1 e o;have D:=Option.some.inj z;omega
theorem jD.keep {w w':World} {b:Nat} {v:Value} {l:List bH} {row:Option Nat}(h:jD w b v l)(j:w.grownBy w' row)(d:v.ownBlock=none∨v.ownBlock≠row)(k:∀x∈l,∀a n c,x.tv=.slice (some a) n c->x.o.v≠[]->row≠some a.block):jD w' b v l:=
 ⟨h.1.kept j d,λx e=>⟨bC.qC (h.2 x e).1 j (k x e),(h.2 x e).2⟩⟩
theorem gY.keep {w w':World} {b:Nat} {v:Value} {l:List bn} {row:Option Nat}(h:gY w b v l)(j:w.grownBy w' row)(e:v.ownBlock=none∨v.ownBlock≠row)(k:∀x∈l,∀a n c,x.tv=.slice (some a) n c->x.p.a.top≠[]->row≠some a.block):gY w' b v l:=
 ⟨h.1.kept j e,λx d=>⟨⟨bC.qC (h.2 x d).1.1 j (k x d),(h.2 x d).1.2⟩,(h.2 x d).2⟩⟩
theorem jD.far {w w':World} {a:Nat} {v:Value} {l:List bH}(h:jD w a v l)(b:Bw w w'):jD w' a v l:=⟨h.1.far b,λx c=>⟨(h.2 x c).1.below b,(h.2 x c).2⟩⟩
theorem gY.far {w w':World} {a:Nat} {v:Value} {l:List bn}(h:gY w a v l)(b:Bw w w'):gY w' a v l:=⟨h.1.far b,λx c=>⟨(h.2 x c).1.below b,(h.2 x c).2⟩⟩
theorem qL {w:World} {B n:Nat} {v u:Value} {l:List bn} {m:List bH}(h:dm w B v l)(o:fU w n u m):v.ownBlock=none∨v.ownBlock≠u.ownBlock:=by
 rcases h.2 with⟨b,_⟩ | ⟨a,c,p,b,_,d,_⟩
 ·exact .inl (by rw[b];rfl)
 right
 rcases o.2 with⟨j,_⟩ | ⟨r,s,k,j,_,q,_⟩
 ·rw[b,j];simp[Value.ownBlock]
 rw[b,j];intro e;simp only[Value.ownBlock,bf5]at e;rw[e,q]at d;simp only[bf5,Obj.cells.injEq]at d;exact absurd d.2.1 (by decide)
theorem mJ {w:World} {B n:Nat} {v u:Value} {l:List bn} {m:List bH}(h:dm w B v l)(o:fU w n u m):u.ownBlock=none∨u.ownBlock≠v.ownBlock:=by
 rcases o.2 with⟨b,_⟩ | ⟨r,s,k,b,_,p,_⟩
 ·exact .inl (by rw[b];rfl)
 right
 rcases h.2 with⟨d,_⟩ | ⟨a,c,q,d,_,j,_⟩
 ·rw[d,b];simp[Value.ownBlock]
 rw[d,b];intro e;simp only[Value.ownBlock,bf5]at e;rw[<-e,p]at j;simp only[bf5,Obj.cells.injEq]at j;exact absurd j.2.1 (by decide)
def CO(w:World)(qb sb rb bb:Nat)(q:bu)(m t:Int)(pv:Value)(ov:Value)(ol:List bH)(bv:Value)(bl:List bn)(wr:World):Prop:=
 dB wr qb q/\bZ wr sb m pv/\bZ wr rb 0 bM/\bZ wr bb t bv/\gY wr (bb+1) bv bl/\jD wr (bb+1) ov ol/\Bw w wr/\(∀x∈ol,∀a n c,x.tv=.slice (some a) n c->bb<a.block)/\(∀x∈ol,∀a n c,x.tv=.slice (some a) n c->x.o.v≠[]->bv.ownBlock≠some a.block)/\∀x∈bl,∀a n c,x.tv=.slice (some a) n c->x.p.a.top≠[]->a.block<w.heap.size
theorem CO.below {w:World} {b c d e:Nat} {q:bu} {m t:Int} {j k:Value} {l:List bH} {n:Value} {o:List bn} {wr p:World}(h:CO w b c d e q m t j k l n o wr)(a:Bw wr p):CO w b c d e q m t j k l n o p:=by
 obtain⟨r,s,u,x,y,z,D,E⟩:=h;exact⟨r.below a,s.below a,u.below a,x.below a,y.far a,z.far a,Tb D a,E⟩
def W9(w:World)(qb sb rb bb:Nat)(q:bu)(m t:Int)(pv:Value)(ps:List bY)(s9 s22:Value)(wr:World):Prop:=
 ∃i:Nat,i<=ps.length/\s22=.int .i64 (i:Int)/\∃ol bv bl,ol.length<=i/\bl.length<=i/\ol.map bH.o=kQ q t (ps.take i)/\bl.map bn.p=lQ q t (ps.take i)/\CO w qb sb rb bb q m t pv s9 ol bv bl wr
theorem QF {q:bu} {t:Int} {a:List bY} {i:Nat} {x:bY}(h:a[i]? =some x):kQ q t (a.take (i+1))=kQ q t (a.take i)++(if kN t x=true then [lK q (je t x)]else []):=by
 rw[kQ,List.take_add_one,h,List.filter_append,bgl]
 congr 1
 by_cases b:kN t x=true <;> simp[b]
theorem QG {q:bu} {t:Int} {a:List bY} {i:Nat} {x:bY}(h:a[i]? =some x):lQ q t (a.take (i+1))=lQ q t (a.take i)++(if kD q x.w t=true then []else [je t x]):=by
 have b:(je t x).w=x.w:=by unfold je;split <;> rfl
 rw[lQ,List.take_add_one,h,bgl,List.filter_append]
 congr 1
 by_cases c:kD q x.w t=true <;> simp[c,b]
def Fv(w:World)(s:df)(o:List dE)(e:Ending)(w':World):Prop:=∃sv ov,e=.returned (.tuple #[sv,ov])/\gG w' sv s/\fM w' ov o/\Bw w w'
theorem Hg(w:World)(q:bu)(m:Int)(a:Value):
  let W:=((w.alloc (.cells q.cells 23)).alloc (.cells #[.int .i64 m,a] 72)).alloc (.cells #[.int .i64 0,bM] 72)
  dB W w.heap.size q/\bZ W (w.heap.size+1) m a/\bZ W (w.heap.size+2) 0 bM/\Bw w W/\W.heap.size=w.heap.size+3:=by
 intro W;obtain⟨d,e,h⟩:=KU w q m a;have c:((w.alloc (.cells q.cells 23)).alloc (.cells #[.int .i64 m,a] 72)).heap.size=w.heap.size+2:=by rw[bg,bg]
 have b:=(Below.refl _ ((w.alloc (.cells q.cells 23)).alloc (.cells #[.int .i64 m,a] 72))).alloc (bfx _) (.cells #[.int .i64 0,bM] 72);refine⟨d.below b,e.below b,?_,Tb h b,by show(World.alloc _ _).heap.size=_;rw[bg,c]⟩
 rw[<-c];exact bg5 _ _
theorem qO(w:World)(m:Int)(a:Value):bZ ((w.alloc (Obj.cells #[.int .i64 0,bM] 72)).setRow w.heap.size #[.int .i64 m,a]) w.heap.size m a/\Bw w ((w.alloc (Obj.cells #[.int .i64 0,bM] 72)).setRow w.heap.size #[.int .i64 m,a]):=
 ⟨setRow_heap _ _ _ _ _ _ (bg5 w _),((Below.refl _ w).alloc (bfx _) _).trans ⟨rfl,rfl,rfl,by simp[World.setRow],λk b=>setRow_other _ _ _ _ (by omega)⟩⟩
theorem FQ(t:Int):prog.built 72 [(0,.int .i64 t)]=some #[.int .i64 t,.slice none 0 0]:=by kernel_rfl
theorem QO(w:World)(q:bu)(m t:Int)(pv:Value)(l:List bn)(hA:cZ w pv l)(hG:∀x∈l,di w x)(hF:tY l)(hs:(gJ (l.map bn.p)).Pairwise bK):
  Calls prog 136 #[.agg q.cells,.agg #[.int .i64 m,pv],.int .i64 t] w (Fv w (jZ q ⟨m,l.map bn.p⟩ t).1 (jZ q ⟨m,l.map bn.p⟩ t).2):=by
 obtain⟨ps,ay⟩:=Nm (l.map bn.p);rw[<-ay]at hs ⊢;obtain⟨P,hP⟩:=Nm (Fv w (jZ q ⟨m,ps⟩ t).1 (jZ q ⟨m,ps⟩ t).2);rw[<-hP];have az:Hid (t<=m->∀wz,cZ wz pv l->(∀x∈l,di wz x)->Bw w wz->P (.returned (.tuple #[.agg #[.int .i64 m,pv],.slice none 0 0])) wz):=Lh (λh wz h1 h2 N=>by
  rw[hP,jZ,if_pos h];exact⟨_,_,rfl,⟨pv,l,rfl,h1,h2,ay⟩,fM.nil _,N⟩)
 have aV:((kQ q t ps).map dE.w).Nodup:=by
  have h1:(kQ q t ps).map dE.w=(ps.filter (kN t)).map bY.w:=by
   rw[kQ,List.map_map];apply List.map_congr_left;intro x _;show(je t x).w=x.w;unfold je
   split <;> rfl
  rw[h1];have h2:((ps.filter (kN t)).map bY.w).Pairwise bK:=List.Pairwise.sublist (List.filter_sublist.map _) hs;exact h2.imp λh e=>by rw[e]at h;exact h.irrefl
 have XY:Hid (¬t<=m->∀wz M R ov I,cZ wz M R->(∀x∈R,di wz x)->R.map bn.p=lQ q t ps->fM wz ov I->I.Perm (kQ q t ps)->I.Pairwise (λa b=>¬zU b a)->Bw w wz->P (.returned (.tuple #[.agg #[.int .i64 t,M],ov])) wz):=Lh (λh wz M R ov I h1 h2 h3 h4 h5 h6 N=>by
  rw[hP,jZ,if_neg h];refine⟨_,_,rfl,⟨M,R,rfl,h1,h2,h3.symm⟩,?_,N⟩;rw[<-DZ aV h5 h6];exact h4)
 obtain⟨sa,sc,aX,aY,aZ⟩:=hA.form;obtain⟨n,hN⟩:=Nm (l.length);obtain⟨w1,av⟩:=Nm (((w.alloc (.cells q.cells 23)).alloc (.cells #[.int .i64 m,pv] 72)).alloc (.cells #[.int .i64 0,.slice none 0 0] 72));obtain⟨qb,XW⟩:=Nm (w.heap.size);obtain⟨sb,aA⟩:=Nm (w.heap.size+1);obtain⟨S,aB⟩:=Nm (w.heap.size+2);have H1:Hid (dB w1 qb q/\bZ w1 sb m pv/\bZ w1 S 0 bM/\Bw w w1/\w1.heap.size=w.heap.size+3):=by rw[av,XW,aA,aB];exact Lh (Hg w q m pv)
 have ae:Hid (w.heap.size<=qb/\qb<sb/\sb<S/\S+1=w1.heap.size):=Lh ⟨by omega,by omega,by omega,by have:=H1.out.2.2.2.2;omega⟩
 have HA:Hid (cZ w pv l/\dS w sa l/\(∀x∈l,di w x)/\tY l):=Lh ⟨hA,aZ,hG,hF⟩;have Yv:Hid (∀x∈l,∀a n c,x.tv=.slice (some a) n c->x.p.a.top≠[]->a.block<w.heap.size):=Lh (λx hx a n c e r=>bC.lt (hG x hx).1 e r);have br:n<=1000000:=by have:=hF.2;omega
 have HN:Hid (n=l.length/\ps.length=n):=Lh ⟨hN,by rw[ay,bfz,hN]⟩
 have OI:Hid (∀(i:Nat) (x:bn),l[i]? =some x->ps[i]? =some x.p):=Lh (λi x h=>by rw[ay,bgf,h];rfl)
 rw[<-hN]at aX;obtain⟨VQ,Yi⟩:=Nm (Value.agg q.cells);have uK:Hid (∀Y (x:bn),di Y x->x.p.a.top.length<=1000000->Calls prog 187 #[VQ,.agg x.cells] Y (xX Y (lK q x.p))):=by
  rw[Yi];exact Lh (λY x h hn=>DK Y q x h hn)
 have aI:Hid (∀Y (x:bn),x.p.w.key.length<=1000000->Calls prog 179 #[VQ,.agg x.p.w.cells,.int .i64 t] Y (Below0 Y (.bool (kD q x.p.w t)))):=by
  rw[Yi];exact Lh (λY x h=>yJ Y q x.p.w t h)
 have bi:Hid (∀Y (x:bn),x.p.w.key.length<=1000000->Calls prog 180 #[.agg x.p.w.cells,.int .i64 t] Y (Below0 Y (.bool (kG x.p.w t)))):=Lh (λY x h=>yK Y x.p.w t h);clear hP hA hG hF hN aY aZ aV hs ay;subst aX;obtain⟨Q,hQ⟩:=Nm q;rw[<-hQ]at H1 uK aI XY;obtain⟨ak,size,ad,al,agg,kq⟩:=q;have Zi:Hid (VQ=.agg #[.int .i64 ak,.int .i64 size,.int .i64 ad,.int .i64 al,.int .i64 agg,.int .i64 kq]):=Lh Yi;have Yy:Hid (∀Y,dB Y qb Q->D6 Y qb ak size ad al agg kq):=by rw[hQ];exact Lh (λY h=>h.d6)
 clear Yi hQ;unfold bu.cells at av ⊢;simp only at av;have a0:(w.alloc (.cells #[.int .i64 ak,.int .i64 size,.int .i64 ad,.int .i64 al,.int .i64 agg,.int .i64 kq] 23)).heap.size=w.heap.size+1:=bg w _;have a1:((w.alloc (.cells #[.int .i64 ak,.int .i64 size,.int .i64 ad,.int .i64 al,.int .i64 agg,.int .i64 kq] 23)).alloc (.cells #[.int .i64 m,.slice sa n sc] 72)).heap.size=w.heap.size+2:=by rw[bg,bg]
 obtain⟨e0,e1⟩:=H1.out.2.1.d2;by_cases aw:t<=m
 ·have HT:=Lh aw;have hd:decide (t<=m)=true:=bfr aw;clear aw;go_enter func136,ntmps136;go_upto_region 1 with fail;rw[<-av,<-aB,<-aA,<-XW];clear av aB aA XW a0 a1;go_upto_region 2 with fail;refine bg4 ?_
  iterate 3 go_step
  refine bg6 rfl _ _ _ rfl S #[.int .i64 m,.slice sa n sc] rfl rfl 72 #[.int .i64 0,bM] H1.out.2.2.1 bP rfl (dF rfl) ?_;obtain⟨w9,am⟩:=Nm (w1.setRow S #[.int .i64 m,.slice sa n sc]);have H9:Hid (bZ w9 S m (.slice sa n sc)/\P (.returned (.tuple #[.agg #[.int .i64 m,.slice sa n sc],.slice none 0 0])) w9):=by
   have U:w1.grownBy w9 (some S):=by rw[am];exact bD _ _ _
   have hb:=ae.out;have N:=H1.out.2.2.2.1.trans (bQ U (by omega) H1.out.2.2.2.1.size)
   exact Lh ⟨by rw[am];exact H1.out.2.2.1.reset m _,az.out HT.out w9 (HA.out.1.below N) (λx hx=>(HA.out.2.2.1 x hx).below N) N⟩
  rw[<-am];clear am e0 e1 hd;go_wp2_with fail;exact bodyPost_ret (v:=.tuple #[.agg #[.int .i64 m,.slice sa n sc],.slice none 0 0]) ((bI (p:=6) (u:=7) (ty:=72) rfl _ _ S 72 #[.int .i64 m,.slice sa n sc] (0,0) _ rfl H9.out.1 underlying72 rfl bP).trans rfl) rfl H9.out.2
 have HT:=Lh aw;have hd:decide (t<=m)=false:=bfq aw;clear aw az;go_enter func136,ntmps136;go_upto_region 1 with fail;rw[<-av,<-aB,<-aA,<-XW];clear av aB aA XW a0 a1;go_upto_region 3 with fail;clear hd e0 e1;refine bg4 ?_
 iterate 3 go_step
 refine bV (by kernel_rfl) 72 _ rfl #[.int .i64 t,.slice none 0 0] (by simp only[bgb,bgc,bge];exact FQ t) ?_
 iterate 3 go_step
 refine bg6 rfl _ _ _ rfl w1.heap.size #[.int .i64 t,.slice none 0 0] rfl rfl 72 #[.int .i64 0,bM] (bg5 w1 _) bP rfl (dF rfl) ?_;obtain⟨w2,aL⟩:=Nm ((w1.alloc (Obj.cells #[.int .i64 0,.slice none 0 0] 72)).setRow w1.heap.size #[.int .i64 t,.slice none 0 0]);obtain⟨D,aM⟩:=Nm (w1.heap.size);have H2:Hid (CO w qb sb S D Q m t (.slice sa n sc) bM [] bM [] w2/\S<D):=by
  obtain⟨k1,k2⟩:=qO w1 t bM;obtain⟨j1,j2,j3,j4,j5⟩:=H1.out;have hb:=ae.out;have e:w2=(w1.alloc (Obj.cells #[.int .i64 0,bM] 72)).setRow w1.heap.size #[.int .i64 t,bM]:=aL;rw[<-e]at k1 k2;rw[aM];exact Lh ⟨⟨j1.below k2,j2.below k2,j3.below k2,k1,⟨dm.nil _ _,λx hx=>by simp at hx⟩,⟨fU.nil _ _,λx hx=>by simp at hx⟩,Tb j4 k2,λx hx=>by simp at hx,λx hx=>by simp at hx,λx hx=>by simp at hx⟩,by omega⟩
 rw[<-aL,<-aM];clear aL aM H1;obtain⟨e0,e1⟩:=H2.out.1.2.1.d2;go_wp2_with fail;clear e0 e1;go_loopw[9,22] (W9 w qb sb S D Q m t (.slice sa n sc) ps) (λ_ i _=>n-(intOf i).toNat)
 case atStart=>exact⟨0,bgi _,rfl,[],bM,[],bfx _,bfx _,rfl,rfl,H2.out.1⟩
 case round=>
  obtain⟨i,hi,rfl,I,M,R,a2,a3,a4,a5,hI⟩:=hrel;rw[HN.out.2]at hi;have HO:=Lh (bfy a2 (bfy a3 (bfy a4 (bfy a5 hI))));rename_i s9 _;obtain⟨oa,oc,rfl,_,_⟩:=hI.2.2.2.2.2.1.1.form;clear a2 a3 a4 a5 hI;by_cases aF:i<n
  ·have bs:(0:Int)<=(i:Int)/\(i:Int)<(n:Int):=by omega
   obtain⟨x,pa,Ym,hx,bj,c0,c1,c2,c3,c4,c5,c6,c7⟩:=(HA.out.2.1.below HO.out.2.2.2.2.2.2.2.2.2.2.1).get (t:=i) (by rw[<-HN.out.1];exact aF)
   subst bj;have HX:Hid (x∈l/\ps[i]? =some x.p/\i<n):=Lh ⟨bf3 hx,OI.out i x hx,aF⟩;clear hx hi aF;obtain⟨F,an⟩:=Nm (x:bn);rw[<-an]at HX;obtain⟨⟨⟨xk,xl,xh⟩,⟨xn,xa,xt,xu,xv⟩,xr⟩,X6,xz,X9,Yb⟩:=x;simp only at c0 c1 c2 c3 c4 c5 c6 c7;go_upto_region 7 with fail;refine bg4 ?_
   iterate 9 go_step
   refine bg6 rfl _ _ _ rfl wr.heap.size (bn.mk ⟨⟨xk,xl,xh⟩,⟨xn,xa,xt,xu,xv⟩,xr⟩ X6 xz X9 Yb).cells rfl rfl 131 dh.cells (bg5 wr _) fK rfl (fV _) ?_;obtain⟨wx,aN⟩:=Nm ((wr.alloc (Obj.cells #[.string ⟨#[]⟩,.int .i64 0,.int .i64 0,.int .i64 0,.int .i64 0,.slice none 0 0,.complex .f64 0 0,.int .i64 0] 131)).setRow wr.heap.size (bn.mk ⟨⟨xk,xl,xh⟩,⟨xn,xa,xt,xu,xv⟩,xr⟩ X6 xz X9 Yb).cells);obtain⟨xb,aO⟩:=Nm (wr.heap.size);have X3:Hid (dw wx xb F/\CO w qb sb S D Q m t (.slice (some ⟨pa,Ym,none⟩) n sc) (.slice oa I.length oc) I M R wx/\D<xb/\di wx F/\(∀k,M.ownBlock=some k->k≠xb)/\(∀k,(Value.slice oa I.length oc).ownBlock=some k->k≠xb)/\∀z∈I,∀a n c,z.tv=.slice (some a) n c->z.o.v≠[]->a.block≠xb):=by
    obtain⟨k1,k2⟩:=jk wr (bn.mk ⟨⟨xk,xl,xh⟩,⟨xn,xa,xt,xu,xv⟩,xr⟩ X6 xz X9 Yb);have h:=HO.out.2.2.2.2;have hl:=h.2.2.2.1.lt;rw[aN,aO,an];have U:=HA.out.2.2.1 _ (by rw[an]at HX;exact HX.out.1)
    exact Lh ⟨k1,h.below k2,by omega,U.below (h.2.2.2.2.2.2.1.trans (k2.mono h.2.2.2.2.2.2.1.size)),λk e=>by have:=(h.2.2.2.2.1.1.lt e).2;omega,λk e=>by have:=(h.2.2.2.2.2.1.1.lt e).2;omega,λz hz a s c e r=>by have:=bC.lt (h.2.2.2.2.2.1.2 z hz).1 e r;omega⟩
   rw[<-aN,<-aO];clear aN aO c0 c1 c2 c3 c4 c5 c6 c7;have Yp:Hid (F=(bn.mk ⟨⟨xk,xl,xh⟩,⟨xn,xa,xt,xu,xv⟩,xr⟩ X6 xz X9 Yb)):=Lh an;have ZP:Hid (∀Y,dw Y xb F->D8 Y xb (bn.mk ⟨⟨xk,xl,xh⟩,⟨xn,xa,xt,xu,xv⟩,xr⟩ X6 xz X9 Yb)):=by rw[an];exact Lh (λY h=>h.d8)
   have aC:=Lh (Yv.out F HX.out.1);obtain⟨rp,Y7⟩:=Nm (kG F.p.w t);obtain⟨gn,aP⟩:=Nm (kD Q F.p.w t);have oL:Hid (∀Y,Calls prog 180 #[.agg #[Sv xk,.int .i64 xl,.int .i64 xh],.int .i64 t] Y (Below0 Y (.bool rp))):=by
    have h:=λY=>bi.out Y F (HA.out.2.2.2.1 _ HX.out.1).1;rw[<-Y7,an]at h;exact Lh h
   have aW:Hid (∀Y,Calls prog 179 #[.agg #[.int .i64 ak,.int .i64 size,.int .i64 ad,.int .i64 al,.int .i64 agg,.int .i64 kq],.agg #[Sv xk,.int .i64 xl,.int .i64 xh],.int .i64 t] Y (Below0 Y (.bool gn))):=by
    have h:=λY=>aI.out Y F (HA.out.2.2.2.1 _ HX.out.1).1;rw[Zi.out,<-aP,an]at h;exact Lh h
   have AY:Hid (kQ Q t (ps.take (i+1))=kQ Q t (ps.take i)++(if kN t F.p=true then [lK Q (je t F.p)]else [])):=Lh (QF HX.out.2.1)
   have ax:Hid (lQ Q t (ps.take (i+1))=lQ Q t (ps.take i)++(if gn=true then []else [je t F.p])):=by rw[aP];exact Lh (QG HX.out.2.1)
   have Az:Hid (kN t F.p=(decide (xr=0) && rp)):=by rw[kN,Y7,an];exact Lh rfl
   clear Y7 aP an;obtain⟨f0,f1,f2,f3,f4,f5,f6,f7⟩:=ZP.out wx X3.out.1;by_cases aG:xr=0
   ·subst aG
    cases rp with
    | false=>
     have HF:Hid (kN t F.p=false):=by rw[Az.out];exact Lh (by simp)
     go_wp2_with fail;refine(oL.out wx).mono ?_;rintro e w3 ⟨rfl,N⟩;have H5:Hid (CO w qb sb S D Q m t (.slice (some ⟨pa,Ym,none⟩) n sc) (.slice oa I.length oc) I M R w3/\dw w3 xb F/\di w3 F):=Lh ⟨X3.out.2.1.below N,X3.out.1.below N,X3.out.2.2.2.1.below N⟩;clear N f0 f1 f2 f3 f4 f5 f6 f7;dsimp only;obtain⟨d0,d1,d2,d3,d4,d5⟩:=Yy.out w3 (H5.out.1).1;obtain⟨f0,f1,f2,f3,f4,f5,f6,f7⟩:=ZP.out w3 (H5.out.2.1)
     cases gn with
     | true=>
      go_wp2_with fail;refine(aW.out w3).mono ?_;rintro e Z ⟨rfl,N⟩;have HZ:=Lh ((H5.out.1).below N);clear N d0 d1 d2 d3 d4 d5 f0 f1 f2 f3 f4 f5 f6 f7;dsimp only;go_wp2_with fail;refine⟨⟨i+1,by rw[HN.out.2];exact HX.out.2.2,rfl,I,M,R,by have:=HO.out.1;omega,by have:=HO.out.2.1;omega,(by rw[AY.out,if_neg (by rw[HF.out];simp),bg2];exact HO.out.2.2.1),?_,HZ.out⟩,by rw[dO,dO];have:=HX.out.2.2;omega⟩
      rw[ax.out,if_pos (by trivial),bg2]
      exact HO.out.2.2.2.1
     | false=>
      go_wp2_with fail;refine(aW.out w3).mono ?_;rintro e Z ⟨rfl,N⟩;have H9:Hid (CO w qb sb S D Q m t (.slice (some ⟨pa,Ym,none⟩) n sc) (.slice oa I.length oc) I M R Z/\dw Z xb F/\di Z F):=Lh ⟨(H5.out.1).below N,(H5.out.2.1).below N,(H5.out.2.2).below N⟩;clear N d0 d1 d2 d3 d4 d5 f0 f1 f2 f3 f4 f5 f6 f7;dsimp only;obtain⟨f0,f1,f2,f3,f4,f5,f6,f7⟩:=ZP.out Z H9.out.2.1;obtain⟨e0,e1⟩:=H9.out.1.2.2.2.1.d2;go_upto_region 12 with fail;refine bg4 ?_
      iterate 9 go_step
      refine jB rfl (.tmp 50) rfl F (by show _=Value.agg F.cells;rw[Yp.out];rfl) ?_
      have Yq:Bw Z (Z.alloc (.cells F.cells 131)):=(Below.refl _ Z).alloc (bfx _) _;obtain⟨ac,Yf⟩:=Nm (Z.alloc (.cells F.cells 131));obtain⟨nb,ag⟩:=Nm (Z.heap.size);have aa:dw ac nb F:=by rw[Yf,ag];exact bg5 Z _
      rw[<-Yf]at Yq;have Yu:Hid (CO w qb sb S D Q m t (.slice (some ⟨pa,Ym,none⟩) n sc) (.slice oa I.length oc) I M R ac/\dw ac nb F/\di ac F):=Lh ⟨H9.out.1.below Yq,aa,H9.out.2.2.below Yq⟩;rw[<-Yf,<-ag];clear Yf ag Yq aa f0 f1 f2 f3 f4 f5 f6 f7 e0 e1;refine kZ rfl (.tmp 49) (.tmp 51) rfl (D+1) M R rfl Yu.out.1.2.2.2.2.1.1 F nb rfl (λj z hz=>Yu.out.2.1.cell j hz) (by have:=HO.out.2.1;have:=HX.out.2.2;omega) (by have:=Yu.out.1.2.2.2.1.lt;omega) ?_
      intro E Yj g1 J g3;have YR:Hid (dB Yj qb Q/\bZ Yj sb m (.slice (some ⟨pa,Ym,none⟩) n sc)/\bZ Yj S 0 bM/\bZ Yj D t M/\gY Yj (D+1) E (R++[F])/\jD Yj (D+1) (.slice oa I.length oc) I/\Bw w Yj/\(∀x∈I,∀a n c,x.tv=.slice (some a) n c->D<a.block)/\(∀x∈I,∀a n c,x.tv=.slice (some a) n c->x.o.v≠[]->E.ownBlock≠some a.block)/\∀x∈R++[F],∀a n c,x.tv=.slice (some a) n c->x.p.a.top≠[]->a.block<w.heap.size):=by
       obtain⟨⟨j1,j2,j3,j4,j5,j6,j7,j8,ZL,j9⟩,k1,k2⟩:=Yu.out;have hb:=ae.out;have ao:=H2.out.2;have ar:w.heap.size<=D:=by omega
       have r:∀b,b<=D->some b≠M.ownBlock:=λb hb e=>by have:=j5.1.lt e.symm;omega
       have iR:∀a n c,F.tv=.slice (some a) n c->F.p.a.top≠[]->a.block<w.heap.size:=λa s c e d=>aC.out a s c (e) (d);have ab:=j5.push k2 (λa s c e d L=>by have h1:=iR a s c e d;have h2:=j5.1.lt L;omega) g1 J g3
       refine Lh ⟨(J.block qb j1.lt (r qb (by omega))).trans j1,j2.grown J (r sb (by omega)),j3.grown J (r S (by omega)),j4.grown J (r D (bfx _)),ab,j6.keep J (mJ j5.1 j6.1) (λz hz a s c e d=>ZL z hz a s c e d),j7.trans ⟨J.os,J.tape,J.output,J.size,λk hk=>J.block k (by have:=j7.size;omega) (r k (by omega))⟩,λz hz a s c e=>j8 z hz a s c e,λz hz a s c e d L=>?_,λz hz a s c e d=>?_⟩
       ·rcases g3 with g3 | g3
        ·rw[g3]at L;exact ZL z hz a s c e d L
        rw[g3]at L;have:=bC.lt (j6.2 z hz).1 e d;have a6:=Option.some.inj L;omega
       rcases List.mem_append.1 hz with hz | hz
       ·exact j9 z hz a s c e d
       rw[List.mem_singleton.1 hz]at e d;exact iR a s c e d
      have Yt:E.oneCell'=true/\E.cells=#[E]:=by
       rcases g1.shape with⟨rfl,_⟩ | ⟨g',c',rfl,_⟩ <;> exact⟨rfl,rfl⟩
      clear g1 J g3;obtain⟨e0,e1⟩:=YR.out.2.2.2.1.d2
      iterate 3 go_step
      refine wpList_store1 rfl _ (.tmp 53) (.tmp 52) rfl ⟨D,1,none⟩ E M rfl rfl Yt.2 Yt.1 sizeOf70 e1 (bZ.fro YR.out.2.2.2.1 1) ?_;obtain⟨au,Yg⟩:=Nm (Yj.setCell ⟨D,1,none⟩ E);have YZ:Hid (CO w qb sb S D Q m t (.slice (some ⟨pa,Ym,none⟩) n sc) (.slice oa I.length oc) I E (R++[F]) au):=by
       have U:Yj.grownBy au (some D):=by rw[Yg];exact grown_setCell _ _ _ _
       obtain⟨j1,j2,j3,j4,j5,j6,j7,j8,j9,ah⟩:=YR.out;have hb:=ae.out;have ao:=H2.out.2;have ar:w.heap.size<=D:=by omega
       refine Lh ⟨dB.below' j1 U (by omega),j2.grown U (by simp;omega),j3.grown U (by simp;omega),by rw[Yg];exact j4.set1 E,j5.keep U (.inr (λe=>by have:=j5.1.lt e;omega)) (λz hz a s c e d L=>?_),j6.keep U (.inr (λe=>by have:=j6.1.lt e;omega)) (λz hz a s c e _ L=>?_),j7.trans (bQ U (by omega) j7.size),j8,j9,ah⟩
       ·cases L
        have:=ah z hz a s c e d;omega
       cases L
       have:=j8 z hz a s c e;omega
      rw[<-Yg];clear Yg e0 e1 Yt;go_wp2_with fail;refine⟨⟨i+1,by rw[HN.out.2];exact HX.out.2.2,rfl,I,E,R++[F],by have:=HO.out.1;omega,by rw[bft,bg0];have:=HO.out.2.1;omega,(by rw[AY.out,if_neg (by rw[HF.out];simp),bg2];exact HO.out.2.2.1),?_,YZ.out⟩,by rw[dO,dO];have:=HX.out.2.2;omega⟩
      rw[ax.out,if_neg (by simp),bgl,HO.out.2.2.2.1,List.map_singleton]
      congr 2
      rw[je,if_neg (by rw[HF.out];simp)]
    | true=>
     have HF:Hid (kN t F.p=true):=by rw[Az.out];exact Lh (by simp)
     go_wp2_with fail;refine(oL.out wx).mono ?_;rintro e w3 ⟨rfl,N⟩;have H3:Hid (CO w qb sb S D Q m t (.slice (some ⟨pa,Ym,none⟩) n sc) (.slice oa I.length oc) I M R w3/\dw w3 xb F/\di w3 F):=Lh ⟨X3.out.2.1.below N,X3.out.1.below N,X3.out.2.2.2.1.below N⟩;clear N f0 f1 f2 f3 f4 f5 f6 f7;dsimp only;go_upto_region 9 with fail;have f7:=(H3.out.2.1.d8).2.2.2.2.2.2.2;refine bg4 ?_
     iterate 3 go_step
     refine wpList_store1 rfl _ (.tmp 35) _ rfl ⟨xb,7,none⟩ (.int .i64 1) _ rfl rfl rfl rfl sizeOf3 f7 (dw.fro H3.out.2.1 7) ?_;obtain⟨w4,aH⟩:=Nm (w3.setCell ⟨xb,7,none⟩ (.int .i64 1));obtain⟨y,hy⟩:=Nm (⟨⟨F.p.w,F.p.a,1⟩,F.tv,F.z,F.ht,F.hz⟩:bn);have H4:Hid (CO w qb sb S D Q m t (.slice (some ⟨pa,Ym,none⟩) n sc) (.slice oa I.length oc) I M R w4/\dw w4 xb y/\di w4 y):=by
      have U:w3.grownBy w4 (some xb):=by rw[aH];exact grown_setCell _ _ _ _
      obtain⟨⟨j1,j2,j3,j4,j5,j6,j7,j8,ZL,j9⟩,k1,k2⟩:=H3.out;obtain⟨_,_,b1,_,b2,b3,b4⟩:=X3.out;have hb:=ae.out;have ao:=H2.out.2;have ar:w.heap.size<=D:=by omega
      refine Lh ⟨⟨dB.below' j1 U (by omega),j2.grown U (by simp;omega),j3.grown U (by simp;omega),j4.grown U (by simp;omega),j5.keep U ?_ (λz hz a s c e r L=>?_),j6.keep U ?_ (λz hz a s c e r L=>?_),j7.trans (bQ U (by omega) j7.size),j8,ZL,j9⟩,by rw[hy,aH];exact k1.WO 1,?_⟩
      ·cases e:M.ownBlock with
       | none=>exact .inl rfl
       | some k=>exact .inr (by simp;exact b2 k e)
      ·cases L
       have:=j9 z hz a s c e r;omega
      ·cases e:(Value.slice oa I.length oc).ownBlock with
       | none=>exact .inl rfl
       | some k=>exact .inr (by simp;exact b3 k e)
      ·cases L
       exact b4 z hz a s c e r rfl
      rw[hy];exact⟨k2.1.grown U (λa s c e r L=>by have:=aC.out a s c e r;omega),k2.2⟩
     have HY:Hid (y.p=je t F.p/\y.p.a.top.length<=1000000/\y.tv=F.tv/\y.p.a=F.p.a):=by
      rw[je,if_pos HF.out,hy];exact Lh ⟨rfl,(HA.out.2.2.2.1 _ HX.out.1).2,rfl,rfl⟩
     have OJ:Hid (∀Y,dw Y xb y->D8 Y xb (bn.mk ⟨⟨xk,xl,xh⟩,⟨xn,xa,xt,xu,xv⟩,1⟩ X6 xz X9 Yb)):=by rw[hy,Yp.out];exact Lh (λY h=>h.d8)
     have Ey:Hid (y.cells=#[Sv xk,.int .i64 xl,.int .i64 xh,.int .i64 xn,.int .i64 xa,X6,xz,.int .i64 1]):=by rw[hy,Yp.out];exact Lh rfl
     rw[<-aH];clear aH hy f7 H3;obtain⟨d0,d1,d2,d3,d4,d5⟩:=Yy.out w4 H4.out.1.1;obtain⟨f0,f1,f2,f3,f4,f5,f6,f7⟩:=OJ.out w4 H4.out.2.1;have bk:Hid (Calls prog 187 #[.agg #[.int .i64 ak,.int .i64 size,.int .i64 ad,.int .i64 al,.int .i64 agg,.int .i64 kq],.agg #[Sv xk,.int .i64 xl,.int .i64 xh,.int .i64 xn,.int .i64 xa,X6,xz,.int .i64 1]] w4 (xX w4 (lK Q y.p))):=by
      have h:=uK.out w4 y H4.out.2.2 HY.out.2.1;rw[Zi.out,Ey.out]at h;exact Lh h
     go_upto_region 10 with fail;refine bg4 ?_
     iterate 9 go_step
     refine wpList_plain rfl λK hK=>?_;go_step;refine bk.out.mono ?_;rintro e w5 ⟨tv,ht,rfl,hI,N,af⟩;refine hK _ _ ?_;clear hK d0 d1 d2 d3 d4 d5 f0 f1 f2 f3 f4 f5 f6 f7;obtain⟨O,aj⟩:=Nm (⟨lK Q y.p,tv,ht⟩:bH);rw[<-aj];refine lU rfl (.tmp 39) rfl O rfl ?_;have aJ:Bw w5 (w5.alloc (.cells O.cells 37)):=(Below.refl _ w5).alloc (bfx _) _;obtain⟨w6,aK⟩:=Nm (w5.alloc (.cells O.cells 37));obtain⟨ob,aQ⟩:=Nm (w5.heap.size);have aa:fH w6 ob O:=by rw[aK,aQ];exact bg5 w5 _
     rw[<-aK]at aJ;have H6:Hid (CO w qb sb S D Q m t (.slice (some ⟨pa,Ym,none⟩) n sc) (.slice oa I.length oc) I M R w6/\dw w6 xb y/\di w6 y/\fH w6 ob O/\dL w6 O/\O.o=lK Q y.p/\∀a n c,O.tv=.slice (some a) n c->w4.heap.size<=a.block):=by
      have o5:=Tb N aJ;refine Lh ⟨H4.out.1.below o5,H4.out.2.1.below o5,H4.out.2.2.below o5,aa,?_,by rw[aj],by rw[aj];exact af⟩
      rw[aj];exact hI.below aJ
     have bm:Hid (D<w4.heap.size/\(∀k,(Value.slice oa I.length oc).ownBlock=some k->k<w4.heap.size)/\(∀k,M.ownBlock=some k->k<w4.heap.size)):=Lh ⟨H4.out.1.2.2.2.1.lt,λk e=>(H4.out.1.2.2.2.2.2.1.1.lt e).2,λk e=>(H4.out.1.2.2.2.2.1.1.lt e).2⟩;rw[<-aK,<-aQ];clear aK aQ aJ N hI af aj aa H4;refine qR rfl (.tmp 36) (.tmp 40) rfl (D+1) _ I rfl H6.out.1.2.2.2.2.2.1.1 O ob rfl (λj z hz=>H6.out.2.2.2.1.cell j hz) (by have:=HO.out.1;have:=HX.out.2.2;omega) (by have:=H6.out.1.2.2.2.1.lt;omega) ?_
     intro v7 w7 g1 J g3;have H7:Hid (∃Zb,Zb.length<=i+1/\Zb.map bH.o=kQ Q t (ps.take (i+1))/\CO w qb sb S D Q m t (.slice (some ⟨pa,Ym,none⟩) n sc) v7 Zb M R w7/\dw w7 xb y/\di w7 y):=by
      obtain⟨⟨j1,j2,j3,j4,j5,j6,j7,j8,ZL,j9⟩,k1,k2,k3,k4,k5,k6⟩:=H6.out;obtain⟨s1,s2,s3⟩:=bm.out;obtain⟨_,_,b1,_,b2,b3,b4⟩:=X3.out;have hb:=ae.out;have ao:=H2.out.2;have ar:w.heap.size<=D:=by omega
      have r:∀b,b<=D->some b≠(Value.slice oa I.length oc).ownBlock:=λb hb e=>by have:=j6.1.lt e.symm;omega
      have ab:=j6.push k4 (λa s c e _ L=>by have h1:=k6 a s c e;have h2:=s2 _ L;omega) g1 J g3
      refine Lh ⟨I++[O],by rw[bft,bg0];have:=HO.out.1;omega,?_,⟨(J.block qb j1.lt (r qb (by omega))).trans j1,j2.grown J (r sb (by omega)),j3.grown J (r S (by omega)),j4.grown J (r D (bfx _)),j5.keep J (qL j5.1 j6.1) (λz hz a s c e d L=>?_),ab,j7.trans ⟨J.os,J.tape,J.output,J.size,λk hk=>J.block k (by have:=j7.size;omega) (r k (by omega))⟩,λz hz a s c e=>?_,λz hz a s c e d=>?_,j9⟩,?_,?_⟩
      ·rw[bgl,HO.out.2.2.1,AY.out,if_pos HF.out,List.map_singleton,k5,HY.out.1]
      ·have h1:=j9 z hz a s c e d;have h2:=j6.1.lt L;omega
      ·rcases List.mem_append.1 hz with hz | hz
       ·exact j8 z hz a s c e
       rw[List.mem_singleton.1 hz]at e;have h1:=k6 a s c e;omega
      ·rcases List.mem_append.1 hz with hz | hz
       ·exact ZL z hz a s c e d
       rw[List.mem_singleton.1 hz]at e;intro L;have h1:=k6 a s c e;have:=s3 _ L;omega
      ·exact(J.block xb k1.lt (λe=>by exact b3 xb e.symm rfl)).trans k1
      refine⟨bC.qC k2.1 J (λa s c e d L=>?_),k2.2⟩;have h1:=aC.out a s c (by rw[<-HY.out.2.2.1];exact e) (by rw[<-HY.out.2.2.2];exact d)
      have h2:=j6.1.lt L;omega
     obtain⟨Zb,a7,a8,YA⟩:=H7.out;obtain⟨IX,IZ,bo,_,_⟩:=YA.1.2.2.2.2.2.1.1.form;have H8:=Lh (bfy a7 (bfy a8 YA));subst bo;clear a7 a8 YA g1 J g3 H7 H6;obtain⟨d0,d1,d2,d3,d4,d5⟩:=Yy.out w7 (H8.out.2.2.1).1;obtain⟨f0,f1,f2,f3,f4,f5,f6,f7⟩:=OJ.out w7 (H8.out.2.2.2.1)
     cases gn with
     | true=>
      go_wp2_with fail;refine(aW.out w7).mono ?_;rintro e Z ⟨rfl,N⟩;have HZ:=Lh ((H8.out.2.2.1).below N);clear N d0 d1 d2 d3 d4 d5 f0 f1 f2 f3 f4 f5 f6 f7;dsimp only;go_wp2_with fail;refine⟨⟨i+1,by rw[HN.out.2];exact HX.out.2.2,rfl,Zb,M,R,H8.out.1,by have:=HO.out.2.1;omega,H8.out.2.1,?_,HZ.out⟩,by rw[dO,dO];have:=HX.out.2.2;omega⟩
      rw[ax.out,if_pos (by trivial),bg2]
      exact HO.out.2.2.2.1
     | false=>
      go_wp2_with fail;refine(aW.out w7).mono ?_;rintro e Z ⟨rfl,N⟩;have H9:Hid (CO w qb sb S D Q m t (.slice (some ⟨pa,Ym,none⟩) n sc) (.slice IX Zb.length IZ) Zb M R Z/\dw Z xb y/\di Z y):=Lh ⟨(H8.out.2.2.1).below N,(H8.out.2.2.2.1).below N,(H8.out.2.2.2.2).below N⟩;clear N d0 d1 d2 d3 d4 d5 f0 f1 f2 f3 f4 f5 f6 f7;dsimp only;obtain⟨f0,f1,f2,f3,f4,f5,f6,f7⟩:=OJ.out Z H9.out.2.1;obtain⟨e0,e1⟩:=H9.out.1.2.2.2.1.d2;go_upto_region 12 with fail;refine bg4 ?_
      iterate 9 go_step
      refine jB rfl (.tmp 50) rfl y (by show _=Value.agg y.cells;rw[Ey.out];rfl) ?_
      have Yq:Bw Z (Z.alloc (.cells y.cells 131)):=(Below.refl _ Z).alloc (bfx _) _;obtain⟨ac,Yf⟩:=Nm (Z.alloc (.cells y.cells 131));obtain⟨nb,ag⟩:=Nm (Z.heap.size);have aa:dw ac nb y:=by rw[Yf,ag];exact bg5 Z _
      rw[<-Yf]at Yq;have Yu:Hid (CO w qb sb S D Q m t (.slice (some ⟨pa,Ym,none⟩) n sc) (.slice IX Zb.length IZ) Zb M R ac/\dw ac nb y/\di ac y):=Lh ⟨H9.out.1.below Yq,aa,H9.out.2.2.below Yq⟩;rw[<-Yf,<-ag];clear Yf ag Yq aa f0 f1 f2 f3 f4 f5 f6 f7 e0 e1;refine kZ rfl (.tmp 49) (.tmp 51) rfl (D+1) M R rfl Yu.out.1.2.2.2.2.1.1 y nb rfl (λj z hz=>Yu.out.2.1.cell j hz) (by have:=HO.out.2.1;have:=HX.out.2.2;omega) (by have:=Yu.out.1.2.2.2.1.lt;omega) ?_
      intro E Yj g1 J g3;have YR:Hid (dB Yj qb Q/\bZ Yj sb m (.slice (some ⟨pa,Ym,none⟩) n sc)/\bZ Yj S 0 bM/\bZ Yj D t M/\gY Yj (D+1) E (R++[y])/\jD Yj (D+1) (.slice IX Zb.length IZ) Zb/\Bw w Yj/\(∀x∈Zb,∀a n c,x.tv=.slice (some a) n c->D<a.block)/\(∀x∈Zb,∀a n c,x.tv=.slice (some a) n c->x.o.v≠[]->E.ownBlock≠some a.block)/\∀x∈R++[y],∀a n c,x.tv=.slice (some a) n c->x.p.a.top≠[]->a.block<w.heap.size):=by
       obtain⟨⟨j1,j2,j3,j4,j5,j6,j7,j8,ZL,j9⟩,k1,k2⟩:=Yu.out;have hb:=ae.out;have ao:=H2.out.2;have ar:w.heap.size<=D:=by omega
       have r:∀b,b<=D->some b≠M.ownBlock:=λb hb e=>by have:=j5.1.lt e.symm;omega
       have iR:∀a n c,y.tv=.slice (some a) n c->y.p.a.top≠[]->a.block<w.heap.size:=λa s c e d=>aC.out a s c (by rw[<-HY.out.2.2.1];exact e) (by rw[<-HY.out.2.2.2];exact d)
       have ab:=j5.push k2 (λa s c e d L=>by have h1:=iR a s c e d;have h2:=j5.1.lt L;omega) g1 J g3
       refine Lh ⟨(J.block qb j1.lt (r qb (by omega))).trans j1,j2.grown J (r sb (by omega)),j3.grown J (r S (by omega)),j4.grown J (r D (bfx _)),ab,j6.keep J (mJ j5.1 j6.1) (λz hz a s c e d=>ZL z hz a s c e d),j7.trans ⟨J.os,J.tape,J.output,J.size,λk hk=>J.block k (by have:=j7.size;omega) (r k (by omega))⟩,λz hz a s c e=>j8 z hz a s c e,λz hz a s c e d L=>?_,λz hz a s c e d=>?_⟩
       ·rcases g3 with g3 | g3
        ·rw[g3]at L;exact ZL z hz a s c e d L
        rw[g3]at L;have:=bC.lt (j6.2 z hz).1 e d;have a6:=Option.some.inj L;omega
       rcases List.mem_append.1 hz with hz | hz
       ·exact j9 z hz a s c e d
       rw[List.mem_singleton.1 hz]at e d;exact iR a s c e d
      have Yt:E.oneCell'=true/\E.cells=#[E]:=by
       rcases g1.shape with⟨rfl,_⟩ | ⟨g',c',rfl,_⟩ <;> exact⟨rfl,rfl⟩
      clear g1 J g3;obtain⟨e0,e1⟩:=YR.out.2.2.2.1.d2
      iterate 3 go_step
      refine wpList_store1 rfl _ (.tmp 53) (.tmp 52) rfl ⟨D,1,none⟩ E M rfl rfl Yt.2 Yt.1 sizeOf70 e1 (bZ.fro YR.out.2.2.2.1 1) ?_;obtain⟨au,Yg⟩:=Nm (Yj.setCell ⟨D,1,none⟩ E);have YZ:Hid (CO w qb sb S D Q m t (.slice (some ⟨pa,Ym,none⟩) n sc) (.slice IX Zb.length IZ) Zb E (R++[y]) au):=by
       have U:Yj.grownBy au (some D):=by rw[Yg];exact grown_setCell _ _ _ _
       obtain⟨j1,j2,j3,j4,j5,j6,j7,j8,j9,ah⟩:=YR.out;have hb:=ae.out;have ao:=H2.out.2;have ar:w.heap.size<=D:=by omega
       refine Lh ⟨dB.below' j1 U (by omega),j2.grown U (by simp;omega),j3.grown U (by simp;omega),by rw[Yg];exact j4.set1 E,j5.keep U (.inr (λe=>by have:=j5.1.lt e;omega)) (λz hz a s c e d L=>?_),j6.keep U (.inr (λe=>by have:=j6.1.lt e;omega)) (λz hz a s c e _ L=>?_),j7.trans (bQ U (by omega) j7.size),j8,j9,ah⟩
       ·cases L
        have:=ah z hz a s c e d;omega
       cases L
       have:=j8 z hz a s c e;omega
      rw[<-Yg];clear Yg e0 e1 Yt;go_wp2_with fail;refine⟨⟨i+1,by rw[HN.out.2];exact HX.out.2.2,rfl,Zb,E,R++[y],H8.out.1,by rw[bft,bg0];have:=HO.out.2.1;omega,H8.out.2.1,?_,YZ.out⟩,by rw[dO,dO];have:=HX.out.2.2;omega⟩
      rw[ax.out,if_neg (by simp),bgl,HO.out.2.2.2.1,List.map_singleton]
      congr 2
      exact HY.out.1
   have a9:(xr==0)=false:=by simpa using aG
   have HF:Hid (kN t F.p=false):=by rw[Az.out,bfq aG];exact Lh rfl
   have H5:Hid (CO w qb sb S D Q m t (.slice (some ⟨pa,Ym,none⟩) n sc) (.slice oa I.length oc) I M R wx/\dw wx xb F/\di wx F):=Lh ⟨X3.out.2.1,X3.out.1,X3.out.2.2.2.1⟩;clear aG;go_upto_region 11 with fail;clear f0 f1 f2 f3 f4 f5 f6 f7 a9;obtain⟨d0,d1,d2,d3,d4,d5⟩:=Yy.out wx (H5.out.1).1;obtain⟨f0,f1,f2,f3,f4,f5,f6,f7⟩:=ZP.out wx (H5.out.2.1)
   cases gn with
   | true=>
    go_wp2_with fail;refine(aW.out wx).mono ?_;rintro e Z ⟨rfl,N⟩;have HZ:=Lh ((H5.out.1).below N);clear N d0 d1 d2 d3 d4 d5 f0 f1 f2 f3 f4 f5 f6 f7;dsimp only;go_wp2_with fail;refine⟨⟨i+1,by rw[HN.out.2];exact HX.out.2.2,rfl,I,M,R,by have:=HO.out.1;omega,by have:=HO.out.2.1;omega,(by rw[AY.out,if_neg (by rw[HF.out];simp),bg2];exact HO.out.2.2.1),?_,HZ.out⟩,by rw[dO,dO];have:=HX.out.2.2;omega⟩
    rw[ax.out,if_pos (by trivial),bg2]
    exact HO.out.2.2.2.1
   | false=>
    go_wp2_with fail;refine(aW.out wx).mono ?_;rintro e Z ⟨rfl,N⟩;have H9:Hid (CO w qb sb S D Q m t (.slice (some ⟨pa,Ym,none⟩) n sc) (.slice oa I.length oc) I M R Z/\dw Z xb F/\di Z F):=Lh ⟨(H5.out.1).below N,(H5.out.2.1).below N,(H5.out.2.2).below N⟩;clear N d0 d1 d2 d3 d4 d5 f0 f1 f2 f3 f4 f5 f6 f7;dsimp only;obtain⟨f0,f1,f2,f3,f4,f5,f6,f7⟩:=ZP.out Z H9.out.2.1;obtain⟨e0,e1⟩:=H9.out.1.2.2.2.1.d2;go_upto_region 12 with fail;refine bg4 ?_
    iterate 9 go_step
    refine jB rfl (.tmp 50) rfl F (by show _=Value.agg F.cells;rw[Yp.out];rfl) ?_
    have Yq:Bw Z (Z.alloc (.cells F.cells 131)):=(Below.refl _ Z).alloc (bfx _) _;obtain⟨ac,Yf⟩:=Nm (Z.alloc (.cells F.cells 131));obtain⟨nb,ag⟩:=Nm (Z.heap.size);have aa:dw ac nb F:=by rw[Yf,ag];exact bg5 Z _
    rw[<-Yf]at Yq;have Yu:Hid (CO w qb sb S D Q m t (.slice (some ⟨pa,Ym,none⟩) n sc) (.slice oa I.length oc) I M R ac/\dw ac nb F/\di ac F):=Lh ⟨H9.out.1.below Yq,aa,H9.out.2.2.below Yq⟩;rw[<-Yf,<-ag];clear Yf ag Yq aa f0 f1 f2 f3 f4 f5 f6 f7 e0 e1;refine kZ rfl (.tmp 49) (.tmp 51) rfl (D+1) M R rfl Yu.out.1.2.2.2.2.1.1 F nb rfl (λj z hz=>Yu.out.2.1.cell j hz) (by have:=HO.out.2.1;have:=HX.out.2.2;omega) (by have:=Yu.out.1.2.2.2.1.lt;omega) ?_
    intro E Yj g1 J g3;have YR:Hid (dB Yj qb Q/\bZ Yj sb m (.slice (some ⟨pa,Ym,none⟩) n sc)/\bZ Yj S 0 bM/\bZ Yj D t M/\gY Yj (D+1) E (R++[F])/\jD Yj (D+1) (.slice oa I.length oc) I/\Bw w Yj/\(∀x∈I,∀a n c,x.tv=.slice (some a) n c->D<a.block)/\(∀x∈I,∀a n c,x.tv=.slice (some a) n c->x.o.v≠[]->E.ownBlock≠some a.block)/\∀x∈R++[F],∀a n c,x.tv=.slice (some a) n c->x.p.a.top≠[]->a.block<w.heap.size):=by
     obtain⟨⟨j1,j2,j3,j4,j5,j6,j7,j8,ZL,j9⟩,k1,k2⟩:=Yu.out;have hb:=ae.out;have ao:=H2.out.2;have ar:w.heap.size<=D:=by omega
     have r:∀b,b<=D->some b≠M.ownBlock:=λb hb e=>by have:=j5.1.lt e.symm;omega
     have iR:∀a n c,F.tv=.slice (some a) n c->F.p.a.top≠[]->a.block<w.heap.size:=λa s c e d=>aC.out a s c (e) (d);have ab:=j5.push k2 (λa s c e d L=>by have h1:=iR a s c e d;have h2:=j5.1.lt L;omega) g1 J g3
     refine Lh ⟨(J.block qb j1.lt (r qb (by omega))).trans j1,j2.grown J (r sb (by omega)),j3.grown J (r S (by omega)),j4.grown J (r D (bfx _)),ab,j6.keep J (mJ j5.1 j6.1) (λz hz a s c e d=>ZL z hz a s c e d),j7.trans ⟨J.os,J.tape,J.output,J.size,λk hk=>J.block k (by have:=j7.size;omega) (r k (by omega))⟩,λz hz a s c e=>j8 z hz a s c e,λz hz a s c e d L=>?_,λz hz a s c e d=>?_⟩
     ·rcases g3 with g3 | g3
      ·rw[g3]at L;exact ZL z hz a s c e d L
      rw[g3]at L;have:=bC.lt (j6.2 z hz).1 e d;have a6:=Option.some.inj L;omega
     rcases List.mem_append.1 hz with hz | hz
     ·exact j9 z hz a s c e d
     rw[List.mem_singleton.1 hz]at e d;exact iR a s c e d
    have Yt:E.oneCell'=true/\E.cells=#[E]:=by
     rcases g1.shape with⟨rfl,_⟩ | ⟨g',c',rfl,_⟩ <;> exact⟨rfl,rfl⟩
    clear g1 J g3;obtain⟨e0,e1⟩:=YR.out.2.2.2.1.d2
    iterate 3 go_step
    refine wpList_store1 rfl _ (.tmp 53) (.tmp 52) rfl ⟨D,1,none⟩ E M rfl rfl Yt.2 Yt.1 sizeOf70 e1 (bZ.fro YR.out.2.2.2.1 1) ?_;obtain⟨au,Yg⟩:=Nm (Yj.setCell ⟨D,1,none⟩ E);have YZ:Hid (CO w qb sb S D Q m t (.slice (some ⟨pa,Ym,none⟩) n sc) (.slice oa I.length oc) I E (R++[F]) au):=by
     have U:Yj.grownBy au (some D):=by rw[Yg];exact grown_setCell _ _ _ _
     obtain⟨j1,j2,j3,j4,j5,j6,j7,j8,j9,ah⟩:=YR.out;have hb:=ae.out;have ao:=H2.out.2;have ar:w.heap.size<=D:=by omega
     refine Lh ⟨dB.below' j1 U (by omega),j2.grown U (by simp;omega),j3.grown U (by simp;omega),by rw[Yg];exact j4.set1 E,j5.keep U (.inr (λe=>by have:=j5.1.lt e;omega)) (λz hz a s c e d L=>?_),j6.keep U (.inr (λe=>by have:=j6.1.lt e;omega)) (λz hz a s c e _ L=>?_),j7.trans (bQ U (by omega) j7.size),j8,j9,ah⟩
     ·cases L
      have:=ah z hz a s c e d;omega
     cases L
     have:=j8 z hz a s c e;omega
    rw[<-Yg];clear Yg e0 e1 Yt;go_wp2_with fail;refine⟨⟨i+1,by rw[HN.out.2];exact HX.out.2.2,rfl,I,E,R++[F],by have:=HO.out.1;omega,by rw[bft,bg0];have:=HO.out.2.1;omega,(by rw[AY.out,if_neg (by rw[HF.out];simp),bg2];exact HO.out.2.2.1),?_,YZ.out⟩,by rw[dO,dO];have:=HX.out.2.2;omega⟩
    rw[ax.out,if_neg (by simp),bgl,HO.out.2.2.2.1,List.map_singleton]
    congr 2
    rw[je,if_neg (by rw[HF.out];simp)]
  obtain rfl:i=n:=by omega
  clear aF hi;have IL:Hid (ps.take i=ps):=Lh (by rw[<-HN.out.2];exact bgs)
  have HS:=Lh (Ro wr (D+1) (.slice oa I.length oc) I HO.out.2.2.2.2.2.2.2.2.2.1.1 (by have:=HO.out.1;omega))
  go_wp2_with fail;refine HS.out.mono ?_;rintro e w3 ⟨rfl,Zp,ap,aD,aR,ai⟩;have H3:Hid (bZ w3 S 0 bM/\bZ w3 D t M/\cZ w3 M R/\(∀x∈R,di w3 x)/\fM w3 (.slice oa I.length oc) (Zp.map bH.o)/\(Zp.map bH.o).Perm (kQ Q t ps)/\(Zp.map bH.o).Pairwise (λa b=>¬zU b a)/\R.map bn.p=lQ Q t ps/\Bw w w3/\(∀x∈R,∀a n c,x.tv=.slice (some a) n c->x.p.a.top≠[]->a.block<w.heap.size)/\(∀x∈Zp,∀a n c,x.tv=.slice (some a) n c->D<a.block)/\dm w3 (D+1) M R/\fU w3 (D+1) (.slice oa I.length oc) Zp/\∀x∈Zp,dL w3 x):=by
   obtain⟨_,_,ba,bc,j1,j2,j3,j4,j5,j6,j7,j8,ZL,j9⟩:=HO.out;have hb:=ae.out;have ao:=H2.out.2;have ar:w.heap.size<=D:=by omega
   have r:∀b,b<=D->some b≠(Value.slice oa I.length oc).ownBlock:=λb hb e=>by have:=j6.1.lt e.symm;omega
   have aE:∀x∈Zp,dL w3 x:=λx hx=>by
    have bd:=j6.2 x (ap.mem_iff.1 hx);exact bC.qC bd.1 ai bd.2
   have h5:=j5.keep ai (qL j5.1 j6.1) (λz hz a s c e d L=>by have h1:=j9 z hz a s c e d;have h2:=j6.1.lt L;omega)
   obtain⟨Zy,aS,aT,aU,Yr⟩:=aR.form;rw[IL.out]at ba bc;refine Lh ⟨j3.grown ai (r S (by omega)),j4.grown ai (r D (bfx _)),h5.1.ins,λx hx=>(h5.2 x hx).1,⟨Zy,aS,Zp,aT,aU,Yr,aE,rfl⟩,by rw[<-ba];exact ap.map _,?_,bc,j7.trans ⟨ai.os,ai.tape,ai.output,ai.size,λk hk=>ai.block k (by have:=j7.size;omega) (r k (by omega))⟩,j9,λx hx a s c e=>j8 x (ap.mem_iff.1 hx) a s c e,h5.1,aR,aE⟩
   rw[List.pairwise_map];exact aD.imp λh h'=>h ((kV _ _).2 h')
  clear ap aD aR ai;dsimp only;obtain⟨e0,e1⟩:=H3.out.2.1.d2;go_upto_region 15 with fail;refine bg4 ?_
  iterate 6 go_step
  refine bg6 rfl _ _ _ rfl S #[.int .i64 t,M] rfl rfl 72 #[.int .i64 0,bM] H3.out.1 bP rfl (dF H3.out.2.2.1.one) ?_;obtain⟨w9,am⟩:=Nm (w3.setRow S #[.int .i64 t,M]);have H9:Hid (bZ w9 S t M/\P (.returned (.tuple #[.agg #[.int .i64 t,M],.slice oa I.length oc])) w9):=by
   have U:w3.grownBy w9 (some S):=by rw[am];exact bD _ _ _
   obtain⟨j1,j2,j3,j4,j5,j6,j7,j8,j9,ah,bp,be,bh,bq⟩:=H3.out;have hb:=ae.out;have ao:=H2.out.2;have iL:=bh.kept U (.inr (λe=>by have:=bh.lt e;omega))
   obtain⟨Zy,aS,aT,aU,Yr⟩:=iL.form;refine Lh ⟨by rw[am];exact j1.reset t M,XY.out HT.out w9 M R _ (Zp.map bH.o) (be.kept U (.inr (λe=>by have:=be.lt e;omega))).ins (λx hx=>⟨(j4 x hx).1.grown U (λa s c e r L=>by have:=ah x hx a s c e r;omega),(j4 x hx).2⟩) j8 ⟨Zy,aS,Zp,aT,aU,Yr,λx hx=>bC.grown (bq x hx) U (λa s c e r L=>by have:=bp x hx a s c e;omega),rfl⟩ j6 j7 (j9.trans (bQ U (by omega) j9.size))⟩
  rw[<-am];clear am e0 e1;go_wp2_with fail;exact bodyPost_ret (v:=.tuple #[.agg #[.int .i64 t,M],.slice oa I.length oc]) ((bI (p:=6) (u:=7) (ty:=72) rfl _ _ S 72 #[.int .i64 t,M] (0,0) _ rfl H9.out.1 underlying72 rfl bP).trans rfl) rfl H9.out.2
end Go.Proofs.YtgfmbkoieacgoaaGreatDoor
