/-
  34.
-/
import Derived.Test.YtjeeghafachebaaGreatU33
set_option maxRecDepth 100000
set_option maxHeartbeats 16000000
namespace Go.Proofs.YtjeeghafachebaaGreat
open Go Go.RowKit Go.Proofs.Tryz
theorem qL(k:List (BitVec 8))(a b:Int):prog.built 55 [(0,.agg #[Sv k,.int .i64 a,.int .i64 b])]=some #[Sv k,.int .i64 a,.int .i64 b,.int .i64 0,.int .i64 0,.slice none 0 0,.complex .f64 0 0,.int .i64 0]:=by kernel_rfl
theorem pg:prog.built 55 []=some cO.cells:=by kernel_rfl
theorem JR(q:bz)(x y:dS):(dA q x y).1.top.length<=8:=by
 unfold dA
 split
 ·split
  ·rename_i h;exact J8 h.2
  simp[dP]
 simp[dP]
theorem l9 {ops:Array Oper} {rest:List Oper} {o:Oper} {a:Act} {w:World} {Q:Exit->Act->World->Prop}(hgd:o.guard=none)(x y:Operand)(ho:o.op=.store 53 x y)(g:Nat)(u:bn)(m:dS)(tv z:Value)(ht:tv.oneCell'=true)(hz:z.oneCell'=true)
  (hx:a.eval x=.pointer (some ⟨g,3,none⟩)) (hy:a.eval y=.agg (bI m.n m.a tv z)) (hg:cz w g u)
  (h:∀w',cz w' g ⟨⟨u.p.w,m,u.p.r⟩,tv,z,ht,hz⟩->w.grownBy w' (some g)->wpList prog ops Q rest (a.put o.dst undef) w'):wpList prog ops Q (o::rest) a w:=by
 refine zm hgd 53 x y ho g 3 [.int .i64 m.n,.int .i64 m.a,tv,z] hx hy 55 u.cells hg bV (by show 3+4<=8;decide) ?_ ?_
 ·intro v hv;simp only[bf2,bf9,or_false]at hv;rcases hv with rfl | rfl | rfl | rfl
  ·rfl
  ·rfl
  ·exact ht
  exact hz
 exact h _ (setRow_heap w g u.cells _ _ _ hg) (bC _ _ _)
theorem cz.Kl {w:World} {b:Nat} {x:bn}(h:cz w b x)(r:Int):cz (w.setCell ⟨b,7,none⟩ (.int .i64 r)) b ⟨⟨x.p.w,x.p.a,r⟩,x.tv,x.z,x.ht,x.hz⟩:=by
 unfold cz at*;rw[setCell_eq_setRow w b 7 _ _ (0,0) _ h];exact setRow_heap w b _ _ _ _ h
def QJ(w:World)(tv:Value):Prop:=∀a n c,tv=.slice (some a) n c->w.heap.size<=a.block
def rR(w:World)(p:bH)(er:Int)(e:Ending)(w':World):Prop:=∃x:bn,x.p=p/\e=.returned (.tuple #[.agg x.cells,.int .i64 er])/\bR w' x/\Bw w w'/\QJ w x.tv
def Nh(w:World)(qb wb rb gb:Nat)(Q:bz)(W:bg)(X:bn)(wr:World):Prop:=dn wr qb Q/\bZ wr wb W/\cz wr rb cO/\cz wr gb X/\bR wr X/\QJ w X.tv/\(∀a n c,X.tv=.slice (some a) n c->X.p.a.top≠[]->gb<a.block)/\Bw w wr
theorem Nh.below {w:World} {qb wb rb gb:Nat} {Q:bz} {W:bg} {X:bn} {wr wz:World}(h:Nh w qb wb rb gb Q W X wr)(hB:Bw wr wz):Nh w qb wb rb gb Q W X wz:=
 ⟨h.1.below hB,h.2.1.below hB,h.2.2.1.below hB,h.2.2.2.1.below hB,h.2.2.2.2.1.below hB,h.2.2.2.2.2.1,h.2.2.2.2.2.2.1,h.2.2.2.2.2.2.2.trans (hB.mono h.2.2.2.2.2.2.2.size)⟩
def Rc(w:World)(qb wb rb gb:Nat)(q:bz)(W:bg)(l:List bH)(s11 UB:Value)(wr:World):Prop:=∃i:Nat,i<=l.length/\s11=.int .i64 0/\UB=.int .i64 (i:Int)/\∃X:bn,X.p.w=W/\X.p.a.top.length<=8/\dY q W l (dP,0)=dY q W (l.drop i) (X.p.a,X.p.r)/\Nh w qb wb rb gb q W X wr
theorem NU {q:bz} {b:bg} {l:List bH} {i:Nat} {x:bH}(h:l[i]? =some x)(p:dS × Int):dY q b (l.drop i) p=if (dA q p.1 x.a).2=0 then dY q b (l.drop (i+1)) ((dA q p.1 x.a).1,if x.w=b then x.r else p.2)else (dP,0,(dA q p.1 x.a).2):=by
 have hi:=(List.getElem?_eq_some_iff.1 h);rw[List.drop_eq_getElem_cons hi.1,hi.2];rfl
theorem Lu(w:World)(q:bz)(x:bg):
  let W:=((w.alloc (.cells q.cells 23)).alloc (.cells x.cells 47)).alloc (.cells #[.string ⟨#[]⟩,.int .i64 0,.int .i64 0,.int .i64 0,.int .i64 0,.slice none 0 0,.complex .f64 0 0,.int .i64 0] 55)
  dn W w.heap.size q/\bZ W (w.heap.size+1) x/\cz W (w.heap.size+2) cO/\Bw w W/\W.heap.size=w.heap.size+3:=by
 intro W;obtain⟨k1,k2,k3⟩:=Jm w q x;have hs:((w.alloc (.cells q.cells 23)).alloc (.cells x.cells 47)).heap.size=w.heap.size+2:=by rw[bq,bq]
 have k4:=(Below.refl _ ((w.alloc (.cells q.cells 23)).alloc (.cells x.cells 47))).alloc (bfx _) (.cells #[.string ⟨#[]⟩,.int .i64 0,.int .i64 0,.int .i64 0,.int .i64 0,.slice none 0 0,.complex .f64 0 0,.int .i64 0] 55);refine⟨k1.below k4,k2.below k4,?_,Tb k3 k4,by show(World.alloc _ _).heap.size=_;rw[bq,hs]⟩
 rw[<-hs];exact bg5 _ _
theorem JW(w:World)(q:bz)(W:bg)(sa:Option Addr)(sc:Nat)(l:List bn)(v:Int)(hA:dI w sa l)(hG:∀x∈l,bR w x)(hF:qG l):
  Calls prog 64 #[.agg q.cells,.agg W.cells,.slice sa l.length sc,.int .i64 v] w (rR w (dJ q W (l.map bn.p) v).1 (dJ q W (l.map bn.p) v).2):=by
 obtain⟨ps,hps⟩:=Nm (l.map bn.p);rw[<-hps];obtain⟨n,hN⟩:=Nm (l.length);obtain⟨P,hP⟩:=Nm (rR w (dJ q W ps v).1 (dJ q W ps v).2);rw[<-hP,<-hN];have TM:Hid (∀wz er,dJ q W ps v=(sM,er)->Bw w wz->P (.returned (.tuple #[.agg cO.cells,.int .i64 er])) wz):=Lh (λwz er h hB=>by
  rw[hP,h];exact⟨cO,rfl,rfl,⟨bA.nil _,gL⟩,hB,λa n c h=>by cases h⟩)
 have Sl:Hid (∀wz (x:bn),dJ q W ps v=(x.p,0)->bR wz x->QJ w x.tv->Bw w wz->P (.returned (.tuple #[.agg x.cells,.int .i64 0])) wz):=Lh (λwz x h hG hN hB=>by
  rw[hP,h];exact⟨x,rfl,rfl,hG,hB,hN⟩)
 have aF:Hid (dJ q W ps v=if (dY q W ps (dP,0)).2.2=0 then (if (jV q (dY q W ps (dP,0)).1 v).2=0 then (⟨W,(jV q (dY q W ps (dP,0)).1 v).1,(dY q W ps (dP,0)).2.1⟩,0)else (sM,(jV q (dY q W ps (dP,0)).1 v).2))else (sM,(dY q W ps (dP,0)).2.2)):=Lh rfl
 obtain⟨w1,hw1⟩:=Nm (((w.alloc (.cells q.cells 23)).alloc (.cells W.cells 47)).alloc (.cells #[.string ⟨#[]⟩,.int .i64 0,.int .i64 0,.int .i64 0,.int .i64 0,.slice none 0 0,.complex .f64 0 0,.int .i64 0] 55));obtain⟨qb,Sm⟩:=Nm (w.heap.size);obtain⟨wb,hwb⟩:=Nm (w.heap.size+1);obtain⟨rb,hrb⟩:=Nm (w.heap.size+2);have H1:Hid (dn w1 qb q/\bZ w1 wb W/\cz w1 rb cO/\Bw w w1/\w1.heap.size=w.heap.size+3):=by rw[hw1,Sm,hwb,hrb];exact Lh (Lu w q W)
 have SA:Hid (w.heap.size<=qb/\qb<wb/\wb<rb/\rb<w1.heap.size):=Lh ⟨by omega,by omega,by omega,by have:=H1.out.2.2.2.2;omega⟩
 have HA:Hid (dI w sa l/\(∀x∈l,bR w x)/\qG l):=Lh ⟨hA,hG,hF⟩;have Tx:n<=1000000:=by have:=hF.2;omega
 have HN:Hid (n=l.length/\ps.length=n):=Lh ⟨hN,by rw[hps,bfz,hN]⟩
 have Ye:Hid (∀(i:Nat) (x:bn),l[i]? =some x->ps[i]? =some x.p):=Lh (λi x h=>by rw[hps,bgf,h];rfl)
 obtain⟨VQ,SS⟩:=Nm (Value.agg q.cells);have WR:Hid (∀w' (x y:dS) Sk z1 Sq z2,bA w' Sk x.top->dw z1 x.u x.v->bA w' Sq y.top->dw z2 y.u y.v->x.top.length<=1000000->y.top.length<=1000000->Calls prog 99 #[VQ,.agg (bI x.n x.a Sk z1),.agg (bI y.n y.a Sq z2)] w' (lD w' (dA q x y).1 (dA q x y).2)):=by
  rw[SS];exact Lh (λw' x y Sk z1 Sq z2 h1 h2 h3 h4 h5 h6=>zG w' q x y Sk z1 Sq z2 h1 h3 h2 h4 h5 h6)
 have Eh:Hid (∀w' (x:dS) Sk z1,bA w' Sk x.top->dw z1 x.u x.v->x.top.length<=1000000->Calls prog 100 #[VQ,.agg (bI x.n x.a Sk z1),.int .i64 v] w' (lD w' (jV q x v).1 (jV q x v).2)):=by
  rw[SS];exact Lh (λw' x Sk z1 h1 h2 h3=>NC w' q x Sk z1 v h1 h2 h3)
 obtain⟨Q,hQ⟩:=Nm q;rw[<-hQ]at H1 WR Eh TM Sl aF;obtain⟨kind,size,slide,late,agg,kq⟩:=q;obtain⟨wk,wl,wh⟩:=W;have VF:Hid (VQ=.agg #[.int .i64 kind,.int .i64 size,.int .i64 slide,.int .i64 late,.int .i64 agg,.int .i64 kq]):=Lh SS;have SV:Hid (∀w',dn w' qb Q->D6 w' qb kind size slide late agg kq):=by rw[hQ];exact Lh (λw' h=>h.d6)
 clear SS hQ hA hG hF hP hN hps;obtain⟨W,hW⟩:=Nm (bg.mk wk wl wh);rw[<-hW]at H1 TM Sl aF;have XL:Hid (∀w',bZ w' wb W->D3 w' wb wk wl wh):=by rw[hW];exact Lh (λw' h=>h.d3)
 have Y6:Hid (W.key=wk/\W.lo=wl/\W.hi=wh/\W=⟨wk,wl,wh⟩):=by rw[hW];exact Lh ⟨rfl,rfl,rfl,rfl⟩
 clear hW;unfold bz.cells bg.cells at hw1 ⊢;simp only at hw1;have hs1:(w.alloc (.cells #[.int .i64 kind,.int .i64 size,.int .i64 slide,.int .i64 late,.int .i64 agg,.int .i64 kq] 23)).heap.size=w.heap.size+1:=bq w _;have hs2:((w.alloc (.cells #[.int .i64 kind,.int .i64 size,.int .i64 slide,.int .i64 late,.int .i64 agg,.int .i64 kq] 23)).alloc (.cells #[Sv wk,.int .i64 wl,.int .i64 wh] 47)).heap.size=w.heap.size+2:=by rw[bq,bq]
 go_enter func64,ntmps64;go_upto_region 1 with(fail);rw[<-hw1,<-hrb,<-hwb,<-Sm];clear hw1 hrb hwb Sm hs1 hs2;obtain⟨e0,e1,e2⟩:=XL.out w1 H1.out.2.1;refine bg4 ?_
 iterate 3 go_step
 refine dm (by rfl) 55 #[(0,.tmp 14)] rfl #[Sv wk,.int .i64 wl,.int .i64 wh,.int .i64 0,.int .i64 0,.slice none 0 0,.complex .f64 0 0,.int .i64 0] (by first | exact qL wk wl wh | (simp only[bgb,bgc,bge];exact qL wk wl wh) | kernel_rfl) ?_
 iterate 3 go_step
 obtain⟨X0,hX0⟩:=Nm (⟨⟨⟨wk,wl,wh⟩,dP,0⟩,bS,fU,rfl,rfl⟩:bn);have XC:(#[Sv wk,.int .i64 wl,.int .i64 wh,.int .i64 0,.int .i64 0,.slice none 0 0,.complex .f64 0 0,.int .i64 0]:Array Value)=X0.cells:=by rw[hX0];rfl
 rw[XC];refine bg6 rfl _ _ _ rfl w1.heap.size X0.cells rfl rfl 55 cO.cells (bg5 w1 _) fo rfl (fG _) ?_;obtain⟨w2,hw2⟩:=Nm ((w1.alloc (Obj.cells #[.string ⟨#[]⟩,.int .i64 0,.int .i64 0,.int .i64 0,.int .i64 0,.slice none 0 0,.complex .f64 0 0,.int .i64 0] 55)).setRow w1.heap.size X0.cells);obtain⟨gb,hgb⟩:=Nm (w1.heap.size);have H2:Hid (Nh w qb wb rb gb Q W X0 w2/\rb<gb/\w1.heap.size<=w2.heap.size):=by
  obtain⟨k1,k2⟩:=fO w1 X0;obtain⟨j1,j2,j3,j4,j5⟩:=H1.out;have hb:=SA.out;rw[hw2,hgb];refine Lh ⟨⟨j1.below k2,j2.below k2,j3.below k2,k1,?_,?_,?_,Tb j4 k2⟩,by omega,k2.size⟩
  ·rw[hX0];exact⟨bA.nil _,gL⟩
  ·rw[hX0];exact λa n c h=>by cases h
  rw[hX0];exact λa n c h=>by cases h
 have HX0:Hid (X0.p.w=W/\X0.p.a=dP/\X0.p.r=0):=by rw[hX0,Y6.out.2.2.2];exact Lh ⟨rfl,rfl,rfl⟩
 rw[<-hw2,<-hgb];clear hw2 hgb XC hX0 e0 e1 e2 H1;go_wp2_with(fail);go_loopw[11,18] (Rc w qb wb rb gb Q W ps) (λ_ i _=>n-(intOf i).toNat)
 case atStart=>
  obtain⟨x1,x2,x3⟩:=HX0.out;exact⟨0,bgi _,rfl,rfl,X0,x1,by rw[x2];simp[dP],by rw[x2,x3,List.drop_zero],H2.out.1⟩
 case round=>
  obtain⟨i,hi,rfl,rfl,X,uX,hXt,hgq,hI⟩:=hrel;rw[HN.out.2]at hi;have HO:=Lh (bfy uX (bfy hXt (bfy hgq hI)));clear uX hXt hgq hI;by_cases hlt:i<n
  ·have hi0:(0:Int)<=(i:Int)/\(i:Int)<(n:Int):=by omega
   obtain⟨x,pa,oa,hx,hsa,c0,c1,c2,c3,c4,c5,c6,c7⟩:=(HA.out.1.below HO.out.2.2.2.2.2.2.2.2.2.2).get (t:=i) (by rw[<-HN.out.1];exact hlt)
   subst hsa;have HX:Hid (x∈l/\ps[i]? =some x.p/\i<n):=Lh ⟨bf3 hx,Ye.out i x hx,hlt⟩;clear hx hi hlt;obtain⟨x_,hxe⟩:=Nm (x:bn);rw[<-hxe]at HX;obtain⟨⟨⟨xk,xl,xh⟩,⟨xn,xa,xt,xu,xv⟩,xr⟩,Su,xz,Sw,Sz⟩:=x;simp only at c0 c1 c2 c3 c4 c5 c6 c7;go_upto_region 4 with(fail);refine bg4 ?_
   iterate 9 go_step
   refine bg6 rfl _ _ _ rfl wr.heap.size (bn.mk ⟨⟨xk,xl,xh⟩,⟨xn,xa,xt,xu,xv⟩,xr⟩ Su xz Sw Sz).cells rfl rfl 55 cO.cells (bg5 wr _) fo rfl (fG _) ?_;obtain⟨wx,hwx⟩:=Nm ((wr.alloc (Obj.cells #[.string ⟨#[]⟩,.int .i64 0,.int .i64 0,.int .i64 0,.int .i64 0,.slice none 0 0,.complex .f64 0 0,.int .i64 0] 55)).setRow wr.heap.size (bn.mk ⟨⟨xk,xl,xh⟩,⟨xn,xa,xt,xu,xv⟩,xr⟩ Su xz Sw Sz).cells);obtain⟨xb,hxb⟩:=Nm (wr.heap.size);have Sn:Hid (cz wx xb x_/\Nh w qb wb rb gb Q W X wx/\xb≠gb/\bR wx x_):=by
    obtain⟨k1,k2⟩:=fO wr (bn.mk ⟨⟨xk,xl,xh⟩,⟨xn,xa,xt,xu,xv⟩,xr⟩ Su xz Sw Sz);have h:=HO.out.2.2.2;have hl:=h.2.2.2.1.lt;rw[hwx,hxb,hxe];have hg:=HA.out.2.1 _ (by rw[hxe]at HX;exact HX.out.1)
    exact Lh ⟨k1,h.below k2,by omega,hg.below (h.2.2.2.2.2.2.2.trans (k2.mono h.2.2.2.2.2.2.2.size))⟩
   rw[<-hwx,<-hxb];clear hwx hxb c0 c1 c2 c3 c4 c5 c6 c7;obtain⟨mg,Xq⟩:=Nm ((dA Q X.p.a x_.p.a).1);obtain⟨er,her⟩:=Nm ((dA Q X.p.a x_.p.a).2);have hmt:mg.top.length<=8:=by rw[Xq];exact JR _ _ _
   have HM:Hid (Calls prog 99 #[VQ,.agg (bI X.p.a.n X.p.a.a X.tv X.z),.agg (bI x_.p.a.n x_.p.a.a x_.tv x_.z)] wx (lD wx mg er)):=by
    obtain⟨_,h2,_⟩:=Sn.out;rw[Xq,her];exact Lh (WR.out wx X.p.a x_.p.a X.tv X.z x_.tv x_.z h2.2.2.2.2.1.1 h2.2.2.2.2.1.2 Sn.out.2.2.2.1 Sn.out.2.2.2.2 (by have:=HO.out.2.1;omega) (HA.out.2.2.1 _ HX.out.1).2)
   have VH:Hid (dY Q W ps (dP,0)=(if er=0 then dY Q W (ps.drop (i+1)) (mg,if x_.p.w=W then x_.p.r else X.p.r)else (dP,0,er))/\mg.top.length<=8):=by
    rw[HO.out.2.2.1,NU HX.out.2.1,Xq,her];refine Lh ⟨rfl,?_⟩;rw[Xq]at hmt;exact hmt
   clear Xq her hmt;have Yf:Hid (∀w',cz w' xb x_->D8 w' xb (bn.mk ⟨⟨xk,xl,xh⟩,⟨xn,xa,xt,xu,xv⟩,xr⟩ Su xz Sw Sz)):=by rw[hxe];exact Lh (λw' h=>h.d8)
   have SY:Hid (x_=(bn.mk ⟨⟨xk,xl,xh⟩,⟨xn,xa,xt,xu,xv⟩,xr⟩ Su xz Sw Sz)):=Lh hxe;clear hxe;have uA:Hid (Value.agg (bI x_.p.a.n x_.p.a.a x_.tv x_.z)=.agg #[.int .i64 xn,.int .i64 xa,Su,xz]):=by rw[SY.out];exact Lh rfl
   have HXc:=Lh (bfy HO.out.1 HO.out.2.1);obtain⟨X_,Vp⟩:=Nm (X:bn);rw[<-Vp]at Sn HM VH HXc;obtain⟨⟨⟨gk,gl,gh⟩,⟨gn,ga,gt,gu,gv⟩,gr⟩,Wo,gz,Y8,Y9⟩:=X;have uk:Hid (∀w',cz w' gb X_->D8 w' gb ⟨⟨⟨gk,gl,gh⟩,⟨gn,ga,gt,gu,gv⟩,gr⟩,Wo,gz,Y8,Y9⟩):=by rw[Vp];exact Lh (λw' h=>h.d8)
   have I4:Hid (Value.agg (bI X_.p.a.n X_.p.a.a X_.tv X_.z)=.agg #[.int .i64 gn,.int .i64 ga,Wo,gz]):=by rw[Vp];exact Lh rfl
   clear Vp HO;have o9:Hid (Calls prog 99 #[.agg #[.int .i64 kind,.int .i64 size,.int .i64 slide,.int .i64 late,.int .i64 agg,.int .i64 kq],.agg #[.int .i64 gn,.int .i64 ga,Wo,gz],.agg #[.int .i64 xn,.int .i64 xa,Su,xz]] wx (lD wx mg er)):=by
    have h:=HM.out;rw[VF.out,uA.out,I4.out]at h;exact Lh h
   clear HM;obtain⟨d0,d1,d2,d3,d4,d5⟩:=SV.out wx Sn.out.2.1.1;obtain⟨e0,e1,e2,e3,e4,e5,e6,e7⟩:=uk.out wx Sn.out.2.1.2.2.2.1;obtain⟨f0,f1,f2,f3,f4,f5,f6,f7⟩:=Yf.out wx Sn.out.1;go_upto_region 5 with(fail);refine bg4 ?_
   iterate 15 go_step
   refine wpList_plain rfl λK hK=>?_;go_step;refine o9.out.mono ?_;rintro e w3 ⟨tv,z,rfl,hI,hZ,hB,Yl⟩;refine hK _ _ ?_;clear hK;have H3:Hid (cz w3 xb x_/\Nh w qb wb rb gb Q W X_ w3/\xb≠gb/\bA w3 tv mg.top/\dw z mg.u mg.v/\∀a n c,tv=.slice (some a) n c->wx.heap.size<=a.block):=Lh ⟨Sn.out.1.below hB,Sn.out.2.1.below hB,Sn.out.2.2.1,hI,hZ,Yl⟩;have aO:Hid (gb<wx.heap.size/\w.heap.size<=wx.heap.size):=Lh ⟨Sn.out.2.1.2.2.2.1.lt,Sn.out.2.1.2.2.2.2.2.2.2.size⟩;obtain⟨ht,hz⟩:tv.oneCell'=true/\z.oneCell'=true:=⟨hI.one,hZ.1.one⟩;clear hI hZ hB Yl d0 d1 d2 d3 d4 d5 e0 e1 e2 e3 e4 e5 e6 e7 f0 f1 f2 f3 f4 f5 f6 f7
   iterate 12 go_step
   refine l9 rfl (.tmp 31) (.tmp 29) rfl gb X_ mg tv z ht hz rfl rfl H3.out.2.1.2.2.2.1 ?_;intro w4 hr4 hg4;obtain⟨X4,Xp⟩:=Nm (⟨⟨X_.p.w,mg,X_.p.r⟩,tv,z,ht,hz⟩:bn);rw[<-Xp]at hr4;have H4:Hid (cz w4 xb x_/\Nh w qb wb rb gb Q W X4 w4):=by
    obtain⟨j1,⟨k1,k2,k3,k4,k5,k6,k7,k8⟩,j3,j4,j5,j6⟩:=H3.out;have hb:=SA.out;have hs:=aO.out;have hgr:=H2.out.2.1;have hn:∀a n c,tv=.slice (some a) n c->gb<a.block/\w.heap.size<=a.block:=λa n c h=>by have:=j6 a n c h;omega
    refine Lh ⟨j1.grown hg4 (by simp;exact j3),dn.below' k1 hg4 (by omega),k2.grown hg4 (by simp;omega),k3.grown hg4 (by simp;omega),hr4,?_,?_,?_,k8.trans (bG hg4 (by omega) k8.size)⟩
    ·rw[Xp];exact⟨j4.grown hg4 (λa n c h _=>by have:=(hn a n c h).1;omega),j5⟩
    ·rw[Xp];exact λa n c h=>(hn a n c h).2
    rw[Xp];exact λa n c h _=>(hn a n c h).1
   have ZK:Hid (X4.p.w=W/\X4.p.a=mg/\X4.p.r=X_.p.r):=by rw[Xp];exact Lh ⟨HXc.out.1,rfl,rfl⟩
   clear Xp hr4 hg4 H3 aO Sn;by_cases hz0:er=0
   ·subst hz0;have ug:Hid (dY Q W ps (dP,0)=dY Q W (ps.drop (i+1)) (mg,if x_.p.w=W then x_.p.r else X_.p.r)):=Lh (by have h:=VH.out.1;rwa [if_pos rfl]at h)
    go_upto_region 8 with(fail);obtain⟨f0,f1,f2,f3,f4,f5,f6,f7⟩:=Yf.out w4 H4.out.1;obtain⟨e0,e1,e2⟩:=XL.out w4 H4.out.2.2.1;obtain⟨rw_,hrw⟩:=Nm (lq ⟨xk,xl,xh⟩ ⟨wk,wl,wh⟩);have heq:∀w',(binOp .eql 47 (.agg #[Sv xk,.int .i64 xl,.int .i64 xh]) (.agg #[Sv wk,.int .i64 wl,.int .i64 wh])).run prog w'=.ok (.bool rw_) w':=λw'=>by rw[hrw];exact jo w' ⟨xk,xl,xh⟩ ⟨wk,wl,wh⟩
    have hgd:∀w' op o1 o2,(eqGuard op 47 o1 o2 (.agg #[Sv xk,.int .i64 xl,.int .i64 xh]) (.agg #[Sv wk,.int .i64 wl,.int .i64 wh])).run prog w'=.ok () w':=λw' op o1 o2=>fT w' op o1 o2 ⟨xk,xl,xh⟩ ⟨wk,wl,wh⟩;have TK:Hid (rw_=true↔x_.p.w=W):=by
     rw[hrw,SY.out,Y6.out.2.2.2];exact Lh (ku _ _)
    clear hrw
    cases rw_ with
    | false=>
     go_wp2_with(fail);refine⟨⟨i+1,by rw[HN.out.2];exact HX.out.2.2,rfl,rfl,X4,ZK.out.1,by rw[ZK.out.2.1];exact VH.out.2,?_,H4.out.2⟩,by rw[dU,dU];have:=HX.out.2.2;omega⟩
     rw[ug.out,if_neg (λh=>by have:=TK.out.2 h;simp at this),ZK.out.2.1,ZK.out.2.2]
    | true=>
     go_upto_region 9 with(fail);have e7:=(H4.out.2.2.2.2.1.d8).2.2.2.2.2.2.2;refine bg4 ?_
     iterate 9 go_step
     refine bU rfl _ (.tmp 42) (.tmp 41) rfl ⟨gb,7,none⟩ (.int .i64 xr) _ rfl rfl rfl rfl sizeOf3 e7 (cz.qi H4.out.2.2.2.2.1 7) ?_;obtain⟨w5,Xu⟩:=Nm (w4.setCell ⟨gb,7,none⟩ (.int .i64 xr));obtain⟨X5,We⟩:=Nm (⟨⟨X4.p.w,X4.p.a,xr⟩,X4.tv,X4.z,X4.ht,X4.hz⟩:bn);have H5:Hid (Nh w qb wb rb gb Q W X5 w5):=by
      have hg:w4.grownBy w5 (some gb):=by rw[Xu];exact bL _ _ _ _
      obtain⟨k1,k2,k3,k4,k5,k6,k7,k8⟩:=H4.out.2;have hb:=SA.out;have hgr:=H2.out.2.1;refine Lh ⟨dn.below' k1 hg (by omega),k2.grown hg (by simp;omega),k3.grown hg (by simp;omega),by rw[We,Xu];exact k4.Kl xr,?_,by rw[We];exact k6,by rw[We];exact k7,k8.trans (bG hg (by omega) k8.size)⟩
      rw[We];exact⟨k5.1.grown hg (λa n c h hne=>by have:=k7 a n c h hne;omega),k5.2⟩
     have EJ:Hid (X5.p.w=W/\X5.p.a=mg/\X5.p.r=x_.p.r):=by rw[We,SY.out];exact Lh ⟨ZK.out.1,ZK.out.2.1,rfl⟩
     rw[<-Xu];clear Xu We e7 e0 e1 e2 f0 f1 f2 f3 f4 f5 f6 f7 heq hgd;go_wp2_with(fail);refine⟨⟨i+1,by rw[HN.out.2];exact HX.out.2.2,rfl,rfl,X5,EJ.out.1,by rw[EJ.out.2.1];exact VH.out.2,?_,H5.out⟩,by rw[dU,dU];have:=HX.out.2.2;omega⟩
     rw[ug.out,if_pos (TK.out.1 (by simp)),EJ.out.2.1,EJ.out.2.2]
   have hz1:(er !=0)=true:=bne_iff_ne.2 hz0;have HE:Hid (dJ Q W ps v=(sM,er)):=by
    have h:=VH.out.1;rw[if_neg hz0]at h;rw[aF.out,h];exact Lh (if_neg hz0)
   clear hz0;go_upto_region 7 with(fail);refine bg4 ?_;refine dm (by rfl) 55 #[] rfl cO.cells (by first | exact pg | (simp only[bgb,bge];exact pg) | kernel_rfl) ?_
   iterate 3 go_step
   refine bg6 rfl _ _ _ rfl rb cO.cells rfl rfl 55 cO.cells H4.out.2.2.2.1 fo rfl (fG _) ?_;obtain⟨w9,SI⟩:=Nm (w4.setRow rb cO.cells);have H9:Hid (cz w9 rb cO/\P (.returned (.tuple #[.agg cO.cells,.int .i64 er])) w9):=by
    have hg:w4.grownBy w9 (some rb):=by rw[SI];exact bC _ _ _
    have hb:=SA.out;have h8:=H4.out.2.2.2.2.2.2.2.2;exact Lh ⟨by rw[SI];exact cz.reset H4.out.2.2.2.1 cO,TM.out w9 er HE.out (h8.trans (bG hg (by omega) h8.size))⟩
   rw[<-SI];clear SI;go_wp2_with(fail);exact bodyPost_ret (v:=.tuple #[.agg cO.cells,.int .i64 er]) ((bK (p:=8) (u:=9) (ty:=55) rfl _ _ rb 55 cO.cells (0,0) _ rfl H9.out.1 underlying55 rfl fo).trans rfl) rfl H9.out.2
  obtain rfl:i=n:=by omega
  clear hlt hi;have hdr:ps.drop i=[]:=by rw[List.drop_eq_nil_iff];rw[HN.out.2];exact bfx _
  have Eu:Hid (dY Q W ps (dP,0)=(X.p.a,X.p.r,0)):=by
   have h:=HO.out.2.2.1;rw[hdr]at h;exact Lh h
  clear hdr;obtain⟨ad,had⟩:=Nm ((jV Q X.p.a v).1);obtain⟨er,her⟩:=Nm ((jV Q X.p.a v).2);have HI:=Lh HO.out.2.2.2;have HC:Hid (Calls prog 100 #[VQ,.agg (bI X.p.a.n X.p.a.a X.tv X.z),.int .i64 v] wr (lD wr ad er)):=by
   rw[had,her];exact Lh (Eh.out wr X.p.a X.tv X.z HI.out.2.2.2.2.1.1 HI.out.2.2.2.2.1.2 (by have:=HO.out.2.1;omega))
  have Y4:Hid (dJ Q W ps v=if er=0 then (⟨W,ad,X.p.r⟩,0)else (sM,er)):=by
   rw[aF.out,Eu.out,had,her];exact Lh (if_pos rfl)
  have YL:=Lh HO.out.1;clear had her Eu HO;obtain⟨X_,Vp⟩:=Nm (X:bn);rw[<-Vp]at HI HC Y4 YL;obtain⟨⟨⟨gk,gl,gh⟩,⟨gn,ga,gt,gu,gv⟩,gr⟩,Wo,gz,Y8,Y9⟩:=X;have uk:Hid (∀w',cz w' gb X_->D8 w' gb ⟨⟨⟨gk,gl,gh⟩,⟨gn,ga,gt,gu,gv⟩,gr⟩,Wo,gz,Y8,Y9⟩):=by rw[Vp];exact Lh (λw' h=>h.d8)
  have I4:Hid (Value.agg (bI X_.p.a.n X_.p.a.a X_.tv X_.z)=.agg #[.int .i64 gn,.int .i64 ga,Wo,gz]):=by rw[Vp];exact Lh rfl
  have SH:Hid (Calls prog 100 #[.agg #[.int .i64 kind,.int .i64 size,.int .i64 slide,.int .i64 late,.int .i64 agg,.int .i64 kq],.agg #[.int .i64 gn,.int .i64 ga,Wo,gz],.int .i64 v] wr (lD wr ad er)):=by
   have h:=HC.out;rw[VF.out,I4.out]at h;exact Lh h
  clear HC Vp;obtain⟨d0,d1,d2,d3,d4,d5⟩:=SV.out wr HI.out.1;obtain⟨e0,e1,e2,e3,e4,e5,e6,e7⟩:=uk.out wr HI.out.2.2.2.1;go_upto_region 11 with(fail);refine bg4 ?_
  iterate 12 go_step
  refine wpList_plain rfl λK hK=>?_;go_step;refine SH.out.mono ?_;rintro e w3 ⟨tv,z,rfl,hI,hZ,hB,Yl⟩;refine hK _ _ ?_;clear hK;have H3:Hid (Nh w qb wb rb gb Q W X_ w3/\bA w3 tv ad.top/\dw z ad.u ad.v/\∀a n c,tv=.slice (some a) n c->wr.heap.size<=a.block):=Lh ⟨HI.out.below hB,hI,hZ,Yl⟩;have aO:Hid (gb<wr.heap.size/\w.heap.size<=wr.heap.size):=Lh ⟨HI.out.2.2.2.1.lt,HI.out.2.2.2.2.2.2.2.size⟩;obtain⟨ht,hz⟩:tv.oneCell'=true/\z.oneCell'=true:=⟨hI.one,hZ.1.one⟩;clear hI hZ hB Yl d0 d1 d2 d3 d4 d5 e0 e1 e2 e3 e4 e5 e6 e7
  iterate 12 go_step
  refine l9 rfl (.tmp 52) (.tmp 50) rfl gb X_ ad tv z ht hz rfl rfl H3.out.1.2.2.2.1 ?_;intro w4 hr4 hg4;obtain⟨X4,Xp⟩:=Nm (⟨⟨X_.p.w,ad,X_.p.r⟩,tv,z,ht,hz⟩:bn);rw[<-Xp]at hr4;have H4:Hid (Nh w qb wb rb gb Q W X4 w4/\∀a n c,X4.tv=.slice (some a) n c->wr.heap.size<=a.block):=by
   obtain⟨⟨k1,k2,k3,k4,k5,k6,k7,k8⟩,j4,j5,j6⟩:=H3.out;have hb:=SA.out;have hs:=aO.out;have hgr:=H2.out.2.1;have hn:∀a n c,tv=.slice (some a) n c->gb<a.block/\w.heap.size<=a.block:=λa n c h=>by have:=j6 a n c h;omega
   refine Lh ⟨⟨dn.below' k1 hg4 (by omega),k2.grown hg4 (by simp;omega),k3.grown hg4 (by simp;omega),hr4,?_,?_,?_,k8.trans (bG hg4 (by omega) k8.size)⟩,?_⟩
   ·rw[Xp];exact⟨j4.grown hg4 (λa n c h _=>by have:=(hn a n c h).1;omega),j5⟩
   ·rw[Xp];exact λa n c h=>(hn a n c h).2
   ·rw[Xp];exact λa n c h _=>(hn a n c h).1
   rw[Xp];exact j6
  have ZK:Hid (X4.p=⟨W,ad,X_.p.r⟩):=by rw[Xp,<-YL.out];exact Lh rfl
  clear Xp hr4 hg4 H3 aO HI;by_cases hz0:er=0
  ·subst hz0;have HE:Hid (dJ Q W ps v=(X4.p,0)):=by rw[Y4.out,if_pos rfl,ZK.out];exact Lh rfl
   go_upto_region 14 with(fail);obtain⟨X5,Vp⟩:=Nm (X4:bn);rw[<-Vp]at H4 HE;obtain⟨⟨⟨gk,gl,gh⟩,⟨gn,ga,gt,gu,gv⟩,gr⟩,Wo,gz,Y8,Y9⟩:=X4;have uk:Hid (∀w',cz w' gb X5->D8 w' gb ⟨⟨⟨gk,gl,gh⟩,⟨gn,ga,gt,gu,gv⟩,gr⟩,Wo,gz,Y8,Y9⟩):=by rw[Vp];exact Lh (λw' h=>h.d8)
   have XC:X5.cells=#[Sv gk,.int .i64 gl,.int .i64 gh,.int .i64 gn,.int .i64 ga,Wo,gz,.int .i64 gr]:=by rw[Vp];rfl
   obtain⟨e0,e1,e2,e3,e4,e5,e6,e7⟩:=uk.out w4 H4.out.1.2.2.2.1;refine bg4 ?_
   iterate 3 go_step
   rw[<-XC];refine bg6 rfl _ _ _ rfl rb X5.cells rfl rfl 55 cO.cells H4.out.1.2.2.1 fo rfl (fG _) ?_;obtain⟨w9,SI⟩:=Nm (w4.setRow rb X5.cells);have H9:Hid (cz w9 rb X5/\P (.returned (.tuple #[.agg X5.cells,.int .i64 0])) w9):=by
    have hg:w4.grownBy w9 (some rb):=by rw[SI];exact bC _ _ _
    have hb:=SA.out;have hgr:=H2.out.2.1;obtain⟨k1,k2,k3,k4,k5,k6,k7,k8⟩:=H4.out.1;exact Lh ⟨by rw[SI];exact k3.reset X5,Sl.out w9 X5 HE.out ⟨k5.1.grown hg (λa n c h hne=>by have:=k7 a n c h hne;omega),k5.2⟩ k6 (k8.trans (bG hg (by omega) k8.size))⟩
   rw[<-SI];clear SI e0 e1 e2 e3 e4 e5 e6 e7;go_wp2_with(fail);exact bodyPost_ret (v:=.tuple #[.agg X5.cells,.int .i64 0]) ((bK (p:=8) (u:=9) (ty:=55) rfl _ _ rb 55 X5.cells (0,0) _ rfl H9.out.1 underlying55 rfl fo).trans rfl) rfl H9.out.2
  have hz1:(er !=0)=true:=bne_iff_ne.2 hz0;have HE:Hid (dJ Q W ps v=(sM,er)):=by rw[Y4.out,if_neg hz0];exact Lh rfl
  clear hz0;go_upto_region 13 with(fail);refine bg4 ?_;refine dm (by rfl) 55 #[] rfl cO.cells (by first | exact pg | (simp only[bgb,bge];exact pg) | kernel_rfl) ?_
  iterate 3 go_step
  refine bg6 rfl _ _ _ rfl rb cO.cells rfl rfl 55 cO.cells H4.out.1.2.2.1 fo rfl (fG _) ?_;obtain⟨w9,SI⟩:=Nm (w4.setRow rb cO.cells);have H9:Hid (cz w9 rb cO/\P (.returned (.tuple #[.agg cO.cells,.int .i64 er])) w9):=by
   have hg:w4.grownBy w9 (some rb):=by rw[SI];exact bC _ _ _
   have hb:=SA.out;have h8:=H4.out.1.2.2.2.2.2.2.2;exact Lh ⟨by rw[SI];exact cz.reset H4.out.1.2.2.1 cO,TM.out w9 er HE.out (h8.trans (bG hg (by omega) h8.size))⟩
  rw[<-SI];clear SI;go_wp2_with(fail);exact bodyPost_ret (v:=.tuple #[.agg cO.cells,.int .i64 er]) ((bK (p:=8) (u:=9) (ty:=55) rfl _ _ rb 55 cO.cells (0,0) _ rfl H9.out.1 underlying55 rfl fo).trans rfl) rfl H9.out.2
theorem bA.qR {w w':World} {v:Value} {l:List Int} {row:Option Nat}(h:bA w v l)(hg:w.grownBy w' row)(hn:∀a n c,v=.slice (some a) n c->l≠[]->row≠some a.block):bA w' v l:=by
 cases row with
 | none=>exact h.below ⟨hg.os,hg.tape,hg.output,hg.size,λk hk=>hg.block k hk (by simp)⟩
 | some b=>exact h.grown hg (λa n c e hne he=>hn a n c e hne (by rw[he]))
theorem bA.lt {w:World} {v:Value} {l:List Int}(h:bA w v l) {a:Addr} {n c:Nat}(e:v=.slice (some a) n c)(hne:l≠[]):a.block<w.heap.size:=by
 obtain⟨a',c',e',_,h'⟩:=h;rcases h' with⟨_,h'⟩ | ⟨b,o,ha,_,h'⟩
 ·exact absurd h' hne
 rw[e']at e;cases e
 cases ha
 cases l with
 | nil=>exact absurd rfl hne
 | cons y t=>exact block_lt_of_cell (h' 0 y rfl)
def kw(w:World)(base:Nat)(v:Value)(l:List bM):Prop:=fe w base v l/\∀x∈l,dO w x/\∀a n c,x.tv=.slice (some a) n c->x.o.v≠[]->v.ownBlock≠some a.block
def jB(w:World)(base:Nat)(v:Value)(l:List bn):Prop:=bY w base v l/\∀x∈l,bR w x/\∀a n c,x.tv=.slice (some a) n c->x.p.a.top≠[]->v.ownBlock≠some a.block
theorem kw.push {w w':World} {base:Nat} {v v':Value} {l:List bM} {y:bM}(h:kw w base v l)(hy:dO w y)(hoff:∀a n c,y.tv=.slice (some a) n c->y.o.v≠[]->v.ownBlock≠some a.block)(ho:fe w' base v' (l++[y]))(hg:w.grownBy w' v.ownBlock)(hv:v'.ownBlock=v.ownBlock∨v'.ownBlock=some w.heap.size):kw w' base v' (l++[y]):=by
 refine⟨ho,λx hx=>?_⟩;have hx2:dO w x/\∀a n c,x.tv=.slice (some a) n c->x.o.v≠[]->v.ownBlock≠some a.block:=by
  rcases List.mem_append.1 hx with hx | hx
  ·exact h.2 x hx
  rw[List.mem_singleton.1 hx];exact⟨hy,hoff⟩
 refine⟨bA.qR hx2.1 hg hx2.2,λa n c e hne=>?_⟩;rcases hv with hv | hv
 ·rw[hv];exact hx2.2 a n c e hne
 rw[hv];intro he;have:=bA.lt hx2.1 e hne;have he':=Option.some.inj he;omega
theorem jB.push {w w':World} {base:Nat} {v v':Value} {l:List bn} {y:bn}(h:jB w base v l)(hy:bR w y)(hoff:∀a n c,y.tv=.slice (some a) n c->y.p.a.top≠[]->v.ownBlock≠some a.block)(ho:bY w' base v' (l++[y]))(hg:w.grownBy w' v.ownBlock)(hv:v'.ownBlock=v.ownBlock∨v'.ownBlock=some w.heap.size):jB w' base v' (l++[y]):=by
 refine⟨ho,λx hx=>?_⟩;have hx2:bR w x/\∀a n c,x.tv=.slice (some a) n c->x.p.a.top≠[]->v.ownBlock≠some a.block:=by
  rcases List.mem_append.1 hx with hx | hx
  ·exact h.2 x hx
  rw[List.mem_singleton.1 hx];exact⟨hy,hoff⟩
 refine⟨⟨bA.qR hx2.1.1 hg hx2.2,hx2.1.2⟩,λa n c e hne=>?_⟩;rcases hv with hv | hv
 ·rw[hv];exact hx2.2 a n c e hne
 rw[hv];intro he;have:=bA.lt hx2.1.1 e hne;have he':=Option.some.inj he;omega
theorem kw.keep {w w':World} {base:Nat} {v:Value} {l:List bM} {row:Option Nat}(h:kw w base v l)(hg:w.grownBy w' row)(hne:v.ownBlock=none∨v.ownBlock≠row)(hT:∀x∈l,∀a n c,x.tv=.slice (some a) n c->x.o.v≠[]->row≠some a.block):kw w' base v l:=
 ⟨h.1.kept hg hne,λx hx=>⟨bA.qR (h.2 x hx).1 hg (hT x hx),(h.2 x hx).2⟩⟩
theorem jB.keep {w w':World} {base:Nat} {v:Value} {l:List bn} {row:Option Nat}(h:jB w base v l)(hg:w.grownBy w' row)(hne:v.ownBlock=none∨v.ownBlock≠row)(hT:∀x∈l,∀a n c,x.tv=.slice (some a) n c->x.p.a.top≠[]->row≠some a.block):jB w' base v l:=
 ⟨h.1.kept hg hne,λx hx=>⟨⟨bA.qR (h.2 x hx).1.1 hg (hT x hx),(h.2 x hx).1.2⟩,(h.2 x hx).2⟩⟩
theorem kw.far {w w':World} {base:Nat} {v:Value} {l:List bM}(h:kw w base v l)(hB:Bw w w'):kw w' base v l:=⟨h.1.far hB,λx hx=>⟨(h.2 x hx).1.below hB,(h.2 x hx).2⟩⟩
theorem jB.far {w w':World} {base:Nat} {v:Value} {l:List bn}(h:jB w base v l)(hB:Bw w w'):jB w' base v l:=⟨h.1.far hB,λx hx=>⟨(h.2 x hx).1.below hB,(h.2 x hx).2⟩⟩
theorem mU {w:World} {B B':Nat} {v u:Value} {l:List bn} {m:List bM}(h:bY w B v l)(h':fe w B' u m):v.ownBlock=none∨v.ownBlock≠u.ownBlock:=by
 rcases h.2 with⟨k1,_⟩ | ⟨a,c,cur,k1,_,k2,_⟩
 ·exact .inl (by rw[k1];rfl)
 right
 rcases h'.2 with⟨j1,_⟩ | ⟨a',c',cur',j1,_,j2,_⟩
 ·rw[k1,j1];simp[Value.ownBlock]
 rw[k1,j1];intro e;simp only[Value.ownBlock,bf5]at e;rw[e,j2]at k2;simp only[bf5,Obj.cells.injEq]at k2;exact absurd k2.2.1 (by decide)
theorem lQ {w:World} {B B':Nat} {v u:Value} {l:List bn} {m:List bM}(h:bY w B v l)(h':fe w B' u m):u.ownBlock=none∨u.ownBlock≠v.ownBlock:=by
 rcases h'.2 with⟨j1,_⟩ | ⟨a',c',cur',j1,_,j2,_⟩
 ·exact .inl (by rw[j1];rfl)
 right
 rcases h.2 with⟨k1,_⟩ | ⟨a,c,cur,k1,_,k2,_⟩
 ·rw[k1,j1];simp[Value.ownBlock]
 rw[k1,j1];intro e;simp only[Value.ownBlock,bf5]at e;rw[<-e,j2]at k2;simp only[bf5,Obj.cells.injEq]at k2;exact absurd k2.2.1 (by decide)
def Ch(w:World)(qb sb rb bb:Nat)(q:bz)(m t:Int)(pv:Value)(ov:Value)(ol:List bM)(bv:Value)(bl:List bn)(wr:World):Prop:=
 dn wr qb q/\bT wr sb m pv/\bT wr rb 0 bS/\bT wr bb t bv/\jB wr (bb+1) bv bl/\kw wr (bb+1) ov ol/\Bw w wr/\(∀x∈ol,∀a n c,x.tv=.slice (some a) n c->bb<a.block)/\(∀x∈ol,∀a n c,x.tv=.slice (some a) n c->x.o.v≠[]->bv.ownBlock≠some a.block)/\∀x∈bl,∀a n c,x.tv=.slice (some a) n c->x.p.a.top≠[]->a.block<w.heap.size
theorem Ch.below {w:World} {qb sb rb bb:Nat} {q:bz} {m t:Int} {pv ov:Value} {ol:List bM} {bv:Value} {bl:List bn} {wr wz:World}(h:Ch w qb sb rb bb q m t pv ov ol bv bl wr)(hB:Bw wr wz):Ch w qb sb rb bb q m t pv ov ol bv bl wz:=by
 obtain⟨h1,h2,h3,h4,h5,h6,h7,h8⟩:=h;exact⟨h1.below hB,h2.below hB,h3.below hB,h4.below hB,h5.far hB,h6.far hB,Tb h7 hB,h8⟩
def Rj(w:World)(qb sb rb bb:Nat)(q:bz)(m t:Int)(pv:Value)(ps:List bH)(s9 s22:Value)(wr:World):Prop:=
 ∃i:Nat,i<=ps.length/\s22=.int .i64 (i:Int)/\∃ol bv bl,ol.length<=i/\bl.length<=i/\ol.map bM.o=gZ q t (ps.take i)/\bl.map bn.p=kT q t (ps.take i)/\Ch w qb sb rb bb q m t pv s9 ol bv bl wr
theorem Mc {q:bz} {t:Int} {ps:List bH} {i:Nat} {x:bH}(h:ps[i]? =some x):gZ q t (ps.take (i+1))=gZ q t (ps.take i)++(if fV t x=true then [kS q (jc t x)]else []):=by
 rw[gZ,List.take_add_one,h,List.filter_append,bgl]
 congr 1
 by_cases hf:fV t x=true <;> simp[hf]
theorem Md {q:bz} {t:Int} {ps:List bH} {i:Nat} {x:bH}(h:ps[i]? =some x):kT q t (ps.take (i+1))=kT q t (ps.take i)++(if gy q x.w t=true then []else [jc t x]):=by
 have hw:(jc t x).w=x.w:=by unfold jc;split <;> rfl
 rw[kT,List.take_add_one,h,bgl,List.filter_append]
 congr 1
 by_cases hg:gy q x.w t=true <;> simp[hg,hw]
def sO(w:World)(s:di)(o:List dB)(e:Ending)(w':World):Prop:=∃sv ov,e=.returned (.tuple #[sv,ov])/\gW w' sv s/\fw w' ov o/\Bw w w'
theorem vZ(w:World)(q:bz)(m:Int)(pv:Value):
  let W:=((w.alloc (.cells q.cells 23)).alloc (.cells #[.int .i64 m,pv] 29)).alloc (.cells #[.int .i64 0,bS] 29)
  dn W w.heap.size q/\bT W (w.heap.size+1) m pv/\bT W (w.heap.size+2) 0 bS/\Bw w W/\W.heap.size=w.heap.size+3:=by
 intro W;obtain⟨k1,k2,k3⟩:=D7 w q m pv;have hs:((w.alloc (.cells q.cells 23)).alloc (.cells #[.int .i64 m,pv] 29)).heap.size=w.heap.size+2:=by rw[bq,bq]
 have k4:=(Below.refl _ ((w.alloc (.cells q.cells 23)).alloc (.cells #[.int .i64 m,pv] 29))).alloc (bfx _) (.cells #[.int .i64 0,bS] 29);refine⟨k1.below k4,k2.below k4,?_,Tb k3 k4,by show(World.alloc _ _).heap.size=_;rw[bq,hs]⟩
 rw[<-hs];exact bg5 _ _
theorem jH(w:World)(m:Int)(pv:Value):bT ((w.alloc (Obj.cells #[.int .i64 0,bS] 29)).setRow w.heap.size #[.int .i64 m,pv]) w.heap.size m pv/\Bw w ((w.alloc (Obj.cells #[.int .i64 0,bS] 29)).setRow w.heap.size #[.int .i64 m,pv]):=
 ⟨setRow_heap _ _ _ _ _ _ (bg5 w _),((Below.refl _ w).alloc (bfx _) _).trans ⟨rfl,rfl,rfl,by simp[World.setRow],λk hk=>setRow_other _ _ _ _ (by omega)⟩⟩
theorem Fa(t:Int):prog.built 29 [(0,.int .i64 t)]=some #[.int .i64 t,.slice none 0 0]:=by kernel_rfl
theorem Mj(w:World)(q:bz)(m t:Int)(pv:Value)(l:List bn)(hA:bO w pv l)(hG:∀x∈l,bR w x)(hF:qG l)(hs:(fI (l.map bn.p)).Pairwise bJ):
  Calls prog 39 #[.agg q.cells,.agg #[.int .i64 m,pv],.int .i64 t] w (sO w (gY q ⟨m,l.map bn.p⟩ t).1 (gY q ⟨m,l.map bn.p⟩ t).2):=by
 obtain⟨ps,hps⟩:=Nm (l.map bn.p);rw[<-hps]at hs ⊢;obtain⟨P,hP⟩:=Nm (sO w (gY q ⟨m,ps⟩ t).1 (gY q ⟨m,ps⟩ t).2);rw[<-hP];have HSame:Hid (t<=m->∀wz,bO wz pv l->(∀x∈l,bR wz x)->Bw w wz->P (.returned (.tuple #[.agg #[.int .i64 m,pv],.slice none 0 0])) wz):=Lh (λh wz h1 h2 hB=>by
  rw[hP,gY,if_pos h];exact⟨_,_,rfl,⟨pv,l,rfl,h1,h2,hps⟩,fw.nil _,hB⟩)
 have hnd:((gZ q t ps).map dB.w).Nodup:=by
  have h1:(gZ q t ps).map dB.w=(ps.filter (fV t)).map bH.w:=by
   rw[gZ,List.map_map];apply List.map_congr_left;intro x _;show(jc t x).w=x.w;unfold jc
   split <;> rfl
  rw[h1];have h2:((ps.filter (fV t)).map bH.w).Pairwise bJ:=List.Pairwise.sublist (List.filter_sublist.map _) hs;exact h2.imp λh e=>by rw[e]at h;exact h.irrefl
 have Sl:Hid (¬t<=m->∀wz bv bl ov ol,bO wz bv bl->(∀x∈bl,bR wz x)->bl.map bn.p=kT q t ps->fw wz ov ol->ol.Perm (gZ q t ps)->ol.Pairwise (λa b=>¬zg b a)->Bw w wz->P (.returned (.tuple #[.agg #[.int .i64 t,bv],ov])) wz):=Lh (λh wz bv bl ov ol h1 h2 h3 h4 h5 h6 hB=>by
  rw[hP,gY,if_neg h];refine⟨_,_,rfl,⟨bv,bl,rfl,h1,h2,h3.symm⟩,?_,hB⟩;rw[<-Dv hnd h5 h6];exact h4)
 obtain⟨sa,sc,hpv,hcap,hAt⟩:=hA.form;obtain⟨n,hN⟩:=Nm (l.length);obtain⟨w1,hw1⟩:=Nm (((w.alloc (.cells q.cells 23)).alloc (.cells #[.int .i64 m,pv] 29)).alloc (.cells #[.int .i64 0,.slice none 0 0] 29));obtain⟨qb,Sm⟩:=Nm (w.heap.size);obtain⟨sb,hsb⟩:=Nm (w.heap.size+1);obtain⟨rb,hrb⟩:=Nm (w.heap.size+2);have H1:Hid (dn w1 qb q/\bT w1 sb m pv/\bT w1 rb 0 bS/\Bw w w1/\w1.heap.size=w.heap.size+3):=by rw[hw1,Sm,hsb,hrb];exact Lh (vZ w q m pv)
 have SA:Hid (w.heap.size<=qb/\qb<sb/\sb<rb/\rb+1=w1.heap.size):=Lh ⟨by omega,by omega,by omega,by have:=H1.out.2.2.2.2;omega⟩
 have HA:Hid (bO w pv l/\dI w sa l/\(∀x∈l,bR w x)/\qG l):=Lh ⟨hA,hAt,hG,hF⟩;have Vg:Hid (∀x∈l,∀a n c,x.tv=.slice (some a) n c->x.p.a.top≠[]->a.block<w.heap.size):=Lh (λx hx a n c e hne=>bA.lt (hG x hx).1 e hne);have Tx:n<=1000000:=by have:=hF.2;omega
 have HN:Hid (n=l.length/\ps.length=n):=Lh ⟨hN,by rw[hps,bfz,hN]⟩
 have Ye:Hid (∀(i:Nat) (x:bn),l[i]? =some x->ps[i]? =some x.p):=Lh (λi x h=>by rw[hps,bgf,h];rfl)
 rw[<-hN]at hpv;obtain⟨VQ,SS⟩:=Nm (Value.agg q.cells);have iR:Hid (∀w' (x:bn),bR w' x->x.p.a.top.length<=1000000->Calls prog 65 #[VQ,.agg x.cells] w' (xI w' (kS q x.p))):=by
  rw[SS];exact Lh (λw' x h hn=>Dl w' q x h hn)
 have V7:Hid (∀w' (x:bn),x.p.w.key.length<=1000000->Calls prog 50 #[VQ,.agg x.p.w.cells,.int .i64 t] w' (bE w' (.bool (gy q x.p.w t)))):=by
  rw[SS];exact Lh (λw' x h=>x8 w' q x.p.w t h)
 have uo:Hid (∀w' (x:bn),x.p.w.key.length<=1000000->Calls prog 51 #[.agg x.p.w.cells,.int .i64 t] w' (bE w' (.bool (ji x.p.w t)))):=Lh (λw' x h=>x9 w' x.p.w t h);clear hP hA hG hF hN hcap hAt hnd hs hps;subst hpv;obtain⟨Q,hQ⟩:=Nm q;rw[<-hQ]at H1 iR V7 Sl;obtain⟨kind,size,slide,late,agg,kq⟩:=q;have VF:Hid (VQ=.agg #[.int .i64 kind,.int .i64 size,.int .i64 slide,.int .i64 late,.int .i64 agg,.int .i64 kq]):=Lh SS;have SV:Hid (∀w',dn w' qb Q->D6 w' qb kind size slide late agg kq):=by rw[hQ];exact Lh (λw' h=>h.d6)
 clear SS hQ;unfold bz.cells at hw1 ⊢;simp only at hw1;have hs1:(w.alloc (.cells #[.int .i64 kind,.int .i64 size,.int .i64 slide,.int .i64 late,.int .i64 agg,.int .i64 kq] 23)).heap.size=w.heap.size+1:=bq w _;have hs2:((w.alloc (.cells #[.int .i64 kind,.int .i64 size,.int .i64 slide,.int .i64 late,.int .i64 agg,.int .i64 kq] 23)).alloc (.cells #[.int .i64 m,.slice sa n sc] 29)).heap.size=w.heap.size+2:=by rw[bq,bq]
 obtain⟨e0,e1⟩:=H1.out.2.1.d2;by_cases Xt:t<=m
 ·have HT:=Lh Xt;have hd:decide (t<=m)=true:=bfr Xt;clear Xt;go_enter func39,ntmps39;go_upto_region 1 with(fail);rw[<-hw1,<-hrb,<-hsb,<-Sm];clear hw1 hrb hsb Sm hs1 hs2;go_upto_region 2 with(fail);refine bg4 ?_
  iterate 3 go_step
  refine bg6 rfl _ _ _ rfl rb #[.int .i64 m,.slice sa n sc] rfl rfl 29 #[.int .i64 0,bS] H1.out.2.2.1 bF rfl (cB rfl) ?_;obtain⟨w9,SI⟩:=Nm (w1.setRow rb #[.int .i64 m,.slice sa n sc]);have H9:Hid (bT w9 rb m (.slice sa n sc)/\P (.returned (.tuple #[.agg #[.int .i64 m,.slice sa n sc],.slice none 0 0])) w9):=by
   have hg:w1.grownBy w9 (some rb):=by rw[SI];exact bC _ _ _
   have hb:=SA.out;have hB:=H1.out.2.2.2.1.trans (bG hg (by omega) H1.out.2.2.2.1.size)
   exact Lh ⟨by rw[SI];exact H1.out.2.2.1.reset m _,HSame.out HT.out w9 (HA.out.1.below hB) (λx hx=>(HA.out.2.2.1 x hx).below hB) hB⟩
  rw[<-SI];clear SI e0 e1 hd;go_wp2_with(fail);exact bodyPost_ret (v:=.tuple #[.agg #[.int .i64 m,.slice sa n sc],.slice none 0 0]) ((bK (p:=6) (u:=7) (ty:=29) rfl _ _ rb 29 #[.int .i64 m,.slice sa n sc] (0,0) _ rfl H9.out.1 underlying29 rfl bF).trans rfl) rfl H9.out.2
 have HT:=Lh Xt;have hd:decide (t<=m)=false:=bfq Xt;clear Xt HSame;go_enter func39,ntmps39;go_upto_region 1 with(fail);rw[<-hw1,<-hrb,<-hsb,<-Sm];clear hw1 hrb hsb Sm hs1 hs2;go_upto_region 3 with(fail);clear hd e0 e1;refine bg4 ?_
 iterate 3 go_step
 refine dm (by kernel_rfl) 29 _ rfl #[.int .i64 t,.slice none 0 0] (by simp only[bgb,bgc,bge];exact Fa t) ?_
 iterate 3 go_step
 refine bg6 rfl _ _ _ rfl w1.heap.size #[.int .i64 t,.slice none 0 0] rfl rfl 29 #[.int .i64 0,bS] (bg5 w1 _) bF rfl (cB rfl) ?_;obtain⟨w2,hw2⟩:=Nm ((w1.alloc (Obj.cells #[.int .i64 0,.slice none 0 0] 29)).setRow w1.heap.size #[.int .i64 t,.slice none 0 0]);obtain⟨bb,hbb⟩:=Nm (w1.heap.size);have H2:Hid (Ch w qb sb rb bb Q m t (.slice sa n sc) bS [] bS [] w2/\rb<bb):=by
  obtain⟨k1,k2⟩:=jH w1 t bS;obtain⟨j1,j2,j3,j4,j5⟩:=H1.out;have hb:=SA.out;have e:w2=(w1.alloc (Obj.cells #[.int .i64 0,bS] 29)).setRow w1.heap.size #[.int .i64 t,bS]:=hw2;rw[<-e]at k1 k2;rw[hbb];exact Lh ⟨⟨j1.below k2,j2.below k2,j3.below k2,k1,⟨bY.nil _ _,λx hx=>by simp at hx⟩,⟨fe.nil _ _,λx hx=>by simp at hx⟩,Tb j4 k2,λx hx=>by simp at hx,λx hx=>by simp at hx,λx hx=>by simp at hx⟩,by omega⟩
 rw[<-hw2,<-hbb];clear hw2 hbb H1;obtain⟨e0,e1⟩:=H2.out.1.2.1.d2;go_wp2_with(fail);clear e0 e1;go_loopw[9,22] (Rj w qb sb rb bb Q m t (.slice sa n sc) ps) (λ_ i _=>n-(intOf i).toNat)
 case atStart=>exact⟨0,bgi _,rfl,[],bS,[],bfx _,bfx _,rfl,rfl,H2.out.1⟩
 case round=>
  obtain⟨i,hi,rfl,ol,bv,bl,hol,hbl,hom,hbm,hI⟩:=hrel;rw[HN.out.2]at hi;have HO:=Lh (bfy hol (bfy hbl (bfy hom (bfy hbm hI))));rename_i s9 _;obtain⟨oa,oc,rfl,_,_⟩:=hI.2.2.2.2.2.1.1.form;clear hol hbl hom hbm hI;by_cases hlt:i<n
  ·have hi0:(0:Int)<=(i:Int)/\(i:Int)<(n:Int):=by omega
   obtain⟨x,pa,Tu,hx,hsa,c0,c1,c2,c3,c4,c5,c6,c7⟩:=(HA.out.2.1.below HO.out.2.2.2.2.2.2.2.2.2.2.1).get (t:=i) (by rw[<-HN.out.1];exact hlt)
   subst hsa;have HX:Hid (x∈l/\ps[i]? =some x.p/\i<n):=Lh ⟨bf3 hx,Ye.out i x hx,hlt⟩;clear hx hi hlt;obtain⟨x_,hxe⟩:=Nm (x:bn);rw[<-hxe]at HX;obtain⟨⟨⟨xk,xl,xh⟩,⟨xn,xa,xt,xu,xv⟩,xr⟩,Su,xz,Sw,Sz⟩:=x;simp only at c0 c1 c2 c3 c4 c5 c6 c7;go_upto_region 7 with(fail);refine bg4 ?_
   iterate 9 go_step
   refine bg6 rfl _ _ _ rfl wr.heap.size (bn.mk ⟨⟨xk,xl,xh⟩,⟨xn,xa,xt,xu,xv⟩,xr⟩ Su xz Sw Sz).cells rfl rfl 55 cO.cells (bg5 wr _) fo rfl (fG _) ?_;obtain⟨wx,hwx⟩:=Nm ((wr.alloc (Obj.cells #[.string ⟨#[]⟩,.int .i64 0,.int .i64 0,.int .i64 0,.int .i64 0,.slice none 0 0,.complex .f64 0 0,.int .i64 0] 55)).setRow wr.heap.size (bn.mk ⟨⟨xk,xl,xh⟩,⟨xn,xa,xt,xu,xv⟩,xr⟩ Su xz Sw Sz).cells);obtain⟨xb,hxb⟩:=Nm (wr.heap.size);have Sn:Hid (cz wx xb x_/\Ch w qb sb rb bb Q m t (.slice (some ⟨pa,Tu,none⟩) n sc) (.slice oa ol.length oc) ol bv bl wx/\bb<xb/\bR wx x_/\(∀k,bv.ownBlock=some k->k≠xb)/\(∀k,(Value.slice oa ol.length oc).ownBlock=some k->k≠xb)/\∀z∈ol,∀a n c,z.tv=.slice (some a) n c->z.o.v≠[]->a.block≠xb):=by
    obtain⟨k1,k2⟩:=fO wr (bn.mk ⟨⟨xk,xl,xh⟩,⟨xn,xa,xt,xu,xv⟩,xr⟩ Su xz Sw Sz);have h:=HO.out.2.2.2.2;have hl:=h.2.2.2.1.lt;rw[hwx,hxb,hxe];have hg:=HA.out.2.2.1 _ (by rw[hxe]at HX;exact HX.out.1)
    exact Lh ⟨k1,h.below k2,by omega,hg.below (h.2.2.2.2.2.2.1.trans (k2.mono h.2.2.2.2.2.2.1.size)),λk e=>by have:=(h.2.2.2.2.1.1.lt e).2;omega,λk e=>by have:=(h.2.2.2.2.2.1.1.lt e).2;omega,λz hz a n' c e hne=>by have:=bA.lt (h.2.2.2.2.2.1.2 z hz).1 e hne;omega⟩
   rw[<-hwx,<-hxb];clear hwx hxb c0 c1 c2 c3 c4 c5 c6 c7;have SY:Hid (x_=(bn.mk ⟨⟨xk,xl,xh⟩,⟨xn,xa,xt,xu,xv⟩,xr⟩ Su xz Sw Sz)):=Lh hxe;have Yf:Hid (∀w',cz w' xb x_->D8 w' xb (bn.mk ⟨⟨xk,xl,xh⟩,⟨xn,xa,xt,xu,xv⟩,xr⟩ Su xz Sw Sz)):=by rw[hxe];exact Lh (λw' h=>h.d8)
   have aP:=Lh (Vg.out x_ HX.out.1);obtain⟨rp,TY⟩:=Nm (ji x_.p.w t);obtain⟨gn,hgn⟩:=Nm (gy Q x_.p.w t);have Wn:Hid (∀w',Calls prog 51 #[.agg #[Sv xk,.int .i64 xl,.int .i64 xh],.int .i64 t] w' (bE w' (.bool rp))):=by
    have h:=λw'=>uo.out w' x_ (HA.out.2.2.2.1 _ HX.out.1).1;rw[<-TY,hxe]at h;exact Lh h
   have WP:Hid (∀w',Calls prog 50 #[.agg #[.int .i64 kind,.int .i64 size,.int .i64 slide,.int .i64 late,.int .i64 agg,.int .i64 kq],.agg #[Sv xk,.int .i64 xl,.int .i64 xh],.int .i64 t] w' (bE w' (.bool gn))):=by
    have h:=λw'=>V7.out w' x_ (HA.out.2.2.2.1 _ HX.out.1).1;rw[VF.out,<-hgn,hxe]at h;exact Lh h
   have uh:Hid (gZ Q t (ps.take (i+1))=gZ Q t (ps.take i)++(if fV t x_.p=true then [kS Q (jc t x_.p)]else [])):=Lh (Mc HX.out.2.1)
   have iM:Hid (kT Q t (ps.take (i+1))=kT Q t (ps.take i)++(if gn=true then []else [jc t x_.p])):=by rw[hgn];exact Lh (Md HX.out.2.1)
   have Ip:Hid (fV t x_.p=(decide (xr=0) && rp)):=by rw[fV,TY,hxe];exact Lh rfl
   clear TY hgn hxe;obtain⟨f0,f1,f2,f3,f4,f5,f6,f7⟩:=Yf.out wx Sn.out.1;by_cases hr0:xr=0
   ·subst hr0
    cases rp with
    | false=>
     have HF:Hid (fV t x_.p=false):=by rw[Ip.out];exact Lh (by simp)
     go_wp2_with(fail);refine(Wn.out wx).mono ?_;rintro e w3 ⟨rfl,hB⟩;have H5:Hid (Ch w qb sb rb bb Q m t (.slice (some ⟨pa,Tu,none⟩) n sc) (.slice oa ol.length oc) ol bv bl w3/\cz w3 xb x_/\bR w3 x_):=Lh ⟨Sn.out.2.1.below hB,Sn.out.1.below hB,Sn.out.2.2.2.1.below hB⟩;clear hB f0 f1 f2 f3 f4 f5 f6 f7;dsimp only;obtain⟨d0,d1,d2,d3,d4,d5⟩:=SV.out w3 (H5.out.1).1;obtain⟨f0,f1,f2,f3,f4,f5,f6,f7⟩:=Yf.out w3 (H5.out.2.1)
     cases gn with
     | true=>
      go_wp2_with(fail);refine(WP.out w3).mono ?_;rintro e w8 ⟨rfl,hB⟩;have HZ:=Lh ((H5.out.1).below hB);clear hB d0 d1 d2 d3 d4 d5 f0 f1 f2 f3 f4 f5 f6 f7;dsimp only;go_wp2_with(fail);refine⟨⟨i+1,by rw[HN.out.2];exact HX.out.2.2,rfl,ol,bv,bl,by have:=HO.out.1;omega,by have:=HO.out.2.1;omega,(by rw[uh.out,if_neg (by rw[HF.out];simp),bg2];exact HO.out.2.2.1),?_,HZ.out⟩,by rw[dU,dU];have:=HX.out.2.2;omega⟩
      rw[iM.out,if_pos (by trivial),bg2]
      exact HO.out.2.2.2.1
     | false=>
      go_wp2_with(fail);refine(WP.out w3).mono ?_;rintro e w8 ⟨rfl,hB⟩;have H9:Hid (Ch w qb sb rb bb Q m t (.slice (some ⟨pa,Tu,none⟩) n sc) (.slice oa ol.length oc) ol bv bl w8/\cz w8 xb x_/\bR w8 x_):=Lh ⟨(H5.out.1).below hB,(H5.out.2.1).below hB,(H5.out.2.2).below hB⟩;clear hB d0 d1 d2 d3 d4 d5 f0 f1 f2 f3 f4 f5 f6 f7;dsimp only;obtain⟨f0,f1,f2,f3,f4,f5,f6,f7⟩:=Yf.out w8 H9.out.2.1;obtain⟨e0,e1⟩:=H9.out.1.2.2.2.1.d2;go_upto_region 12 with(fail);refine bg4 ?_
      iterate 9 go_step
      refine fD rfl (.tmp 50) rfl x_ (by show _=Value.agg x_.cells;rw[SY.out];rfl) ?_
      have TP:Bw w8 (w8.alloc (.cells x_.cells 55)):=(Below.refl _ w8).alloc (bfx _) _;obtain⟨Vo,Tk⟩:=Nm (w8.alloc (.cells x_.cells 55));obtain⟨nb,hnb⟩:=Nm (w8.heap.size);have hrow:cz Vo nb x_:=by rw[Tk,hnb];exact bg5 w8 _
      rw[<-Tk]at TP;have TV:Hid (Ch w qb sb rb bb Q m t (.slice (some ⟨pa,Tu,none⟩) n sc) (.slice oa ol.length oc) ol bv bl Vo/\cz Vo nb x_/\bR Vo x_):=Lh ⟨H9.out.1.below TP,hrow,H9.out.2.2.below TP⟩;rw[<-Tk,<-hnb];clear Tk hnb TP hrow f0 f1 f2 f3 f4 f5 f6 f7 e0 e1;refine gJ rfl (.tmp 49) (.tmp 51) rfl (bb+1) bv bl rfl TV.out.1.2.2.2.2.1.1 x_ nb rfl (λj z hz=>TV.out.2.1.cell j hz) (by have:=HO.out.2.1;have:=HX.out.2.2;omega) (by have:=TV.out.1.2.2.2.1.lt;omega) ?_
      intro v11 Tq g1 g2 g3;have TL:Hid (dn Tq qb Q/\bT Tq sb m (.slice (some ⟨pa,Tu,none⟩) n sc)/\bT Tq rb 0 bS/\bT Tq bb t bv/\jB Tq (bb+1) v11 (bl++[x_])/\kw Tq (bb+1) (.slice oa ol.length oc) ol/\Bw w Tq/\(∀x∈ol,∀a n c,x.tv=.slice (some a) n c->bb<a.block)/\(∀x∈ol,∀a n c,x.tv=.slice (some a) n c->x.o.v≠[]->v11.ownBlock≠some a.block)/\∀x∈bl++[x_],∀a n c,x.tv=.slice (some a) n c->x.p.a.top≠[]->a.block<w.heap.size):=by
       obtain⟨⟨j1,j2,j3,j4,j5,j6,j7,j8,XH,j9⟩,k1,k2⟩:=TV.out;have hb:=SA.out;have hgr:=H2.out.2;have hsz:w.heap.size<=bb:=by omega
       have hne:∀b,b<=bb->some b≠bv.ownBlock:=λb hb e=>by have:=j5.1.lt e.symm;omega
       have Wt:∀a n c,x_.tv=.slice (some a) n c->x_.p.a.top≠[]->a.block<w.heap.size:=λa n' c e hne'=>aP.out a n' c (e) (hne');have hpush:=j5.push k2 (λa n' c e hne' he=>by have h1:=Wt a n' c e hne';have h2:=j5.1.lt he;omega) g1 g2 g3
       refine Lh ⟨(g2.block qb j1.lt (hne qb (by omega))).trans j1,j2.grown g2 (hne sb (by omega)),j3.grown g2 (hne rb (by omega)),j4.grown g2 (hne bb (bfx _)),hpush,j6.keep g2 (lQ j5.1 j6.1) (λz hz a n' c e hne'=>XH z hz a n' c e hne'),j7.trans ⟨g2.os,g2.tape,g2.output,g2.size,λk hk=>g2.block k (by have:=j7.size;omega) (hne k (by omega))⟩,λz hz a n' c e=>j8 z hz a n' c e,λz hz a n' c e hne' he=>?_,λz hz a n' c e hne'=>?_⟩
       ·rcases g3 with g3 | g3
        ·rw[g3]at he;exact XH z hz a n' c e hne' he
        rw[g3]at he;have:=bA.lt (j6.2 z hz).1 e hne';have he':=Option.some.inj he;omega
       rcases List.mem_append.1 hz with hz | hz
       ·exact j9 z hz a n' c e hne'
       rw[List.mem_singleton.1 hz]at e hne';exact Wt a n' c e hne'
      have Vb:v11.oneCell'=true/\v11.cells=#[v11]:=by
       rcases g1.shape with⟨rfl,_⟩ | ⟨g',c',rfl,_⟩ <;> exact⟨rfl,rfl⟩
      clear g1 g2 g3;obtain⟨e0,e1⟩:=TL.out.2.2.2.1.d2
      iterate 3 go_step
      refine bU rfl _ (.tmp 53) (.tmp 52) rfl ⟨bb,1,none⟩ v11 bv rfl rfl Vb.2 Vb.1 sizeOf27 e1 (bT.qi TL.out.2.2.2.1 1) ?_;obtain⟨Xh,Tm⟩:=Nm (Tq.setCell ⟨bb,1,none⟩ v11);have Tc:Hid (Ch w qb sb rb bb Q m t (.slice (some ⟨pa,Tu,none⟩) n sc) (.slice oa ol.length oc) ol v11 (bl++[x_]) Xh):=by
       have hg:Tq.grownBy Xh (some bb):=by rw[Tm];exact bL _ _ _ _
       obtain⟨j1,j2,j3,j4,j5,j6,j7,j8,j9,j10⟩:=TL.out;have hb:=SA.out;have hgr:=H2.out.2;have hsz:w.heap.size<=bb:=by omega
       refine Lh ⟨dn.below' j1 hg (by omega),j2.grown hg (by simp;omega),j3.grown hg (by simp;omega),by rw[Tm];exact j4.set1 v11,j5.keep hg (.inr (λe=>by have:=j5.1.lt e;omega)) (λz hz a n' c e hne' he=>?_),j6.keep hg (.inr (λe=>by have:=j6.1.lt e;omega)) (λz hz a n' c e _ he=>?_),j7.trans (bG hg (by omega) j7.size),j8,j9,j10⟩
       ·cases he
        have:=j10 z hz a n' c e hne';omega
       cases he
       have:=j8 z hz a n' c e;omega
      rw[<-Tm];clear Tm e0 e1 Vb;go_wp2_with(fail);refine⟨⟨i+1,by rw[HN.out.2];exact HX.out.2.2,rfl,ol,v11,bl++[x_],by have:=HO.out.1;omega,by rw[bft,bg0];have:=HO.out.2.1;omega,(by rw[uh.out,if_neg (by rw[HF.out];simp),bg2];exact HO.out.2.2.1),?_,Tc.out⟩,by rw[dU,dU];have:=HX.out.2.2;omega⟩
      rw[iM.out,if_neg (by simp),bgl,HO.out.2.2.2.1,List.map_singleton]
      congr 2
      rw[jc,if_neg (by rw[HF.out];simp)]
    | true=>
     have HF:Hid (fV t x_.p=true):=by rw[Ip.out];exact Lh (by simp)
     go_wp2_with(fail);refine(Wn.out wx).mono ?_;rintro e w3 ⟨rfl,hB⟩;have H3:Hid (Ch w qb sb rb bb Q m t (.slice (some ⟨pa,Tu,none⟩) n sc) (.slice oa ol.length oc) ol bv bl w3/\cz w3 xb x_/\bR w3 x_):=Lh ⟨Sn.out.2.1.below hB,Sn.out.1.below hB,Sn.out.2.2.2.1.below hB⟩;clear hB f0 f1 f2 f3 f4 f5 f6 f7;dsimp only;go_upto_region 9 with(fail);have f7:=(H3.out.2.1.d8).2.2.2.2.2.2.2;refine bg4 ?_
     iterate 3 go_step
     refine bU rfl _ (.tmp 35) _ rfl ⟨xb,7,none⟩ (.int .i64 1) _ rfl rfl rfl rfl sizeOf3 f7 (cz.qi H3.out.2.1 7) ?_;obtain⟨w4,hw4⟩:=Nm (w3.setCell ⟨xb,7,none⟩ (.int .i64 1));obtain⟨y,hy⟩:=Nm (⟨⟨x_.p.w,x_.p.a,1⟩,x_.tv,x_.z,x_.ht,x_.hz⟩:bn);have H4:Hid (Ch w qb sb rb bb Q m t (.slice (some ⟨pa,Tu,none⟩) n sc) (.slice oa ol.length oc) ol bv bl w4/\cz w4 xb y/\bR w4 y):=by
      have hg:w3.grownBy w4 (some xb):=by rw[hw4];exact bL _ _ _ _
      obtain⟨⟨j1,j2,j3,j4,j5,j6,j7,j8,XH,j9⟩,k1,k2⟩:=H3.out;obtain⟨_,_,b1,_,b2,b3,b4⟩:=Sn.out;have hb:=SA.out;have hgr:=H2.out.2;have hsz:w.heap.size<=bb:=by omega
      refine Lh ⟨⟨dn.below' j1 hg (by omega),j2.grown hg (by simp;omega),j3.grown hg (by simp;omega),j4.grown hg (by simp;omega),j5.keep hg ?_ (λz hz a n' c e hne he=>?_),j6.keep hg ?_ (λz hz a n' c e hne he=>?_),j7.trans (bG hg (by omega) j7.size),j8,XH,j9⟩,by rw[hy,hw4];exact k1.Kl 1,?_⟩
      ·cases e:bv.ownBlock with
       | none=>exact .inl rfl
       | some k=>exact .inr (by simp;exact b2 k e)
      ·cases he
       have:=j9 z hz a n' c e hne;omega
      ·cases e:(Value.slice oa ol.length oc).ownBlock with
       | none=>exact .inl rfl
       | some k=>exact .inr (by simp;exact b3 k e)
      ·cases he
       exact b4 z hz a n' c e hne rfl
      rw[hy];exact⟨k2.1.grown hg (λa n' c e hne he=>by have:=aP.out a n' c e hne;omega),k2.2⟩
     have HY:Hid (y.p=jc t x_.p/\y.p.a.top.length<=1000000/\y.tv=x_.tv/\y.p.a=x_.p.a):=by
      rw[jc,if_pos HF.out,hy];exact Lh ⟨rfl,(HA.out.2.2.2.1 _ HX.out.1).2,rfl,rfl⟩
     have IV:Hid (∀w',cz w' xb y->D8 w' xb (bn.mk ⟨⟨xk,xl,xh⟩,⟨xn,xa,xt,xu,xv⟩,1⟩ Su xz Sw Sz)):=by rw[hy,SY.out];exact Lh (λw' h=>h.d8)
     have iV:Hid (y.cells=#[Sv xk,.int .i64 xl,.int .i64 xh,.int .i64 xn,.int .i64 xa,Su,xz,.int .i64 1]):=by rw[hy,SY.out];exact Lh rfl
     rw[<-hw4];clear hw4 hy f7 H3;obtain⟨d0,d1,d2,d3,d4,d5⟩:=SV.out w4 H4.out.1.1;obtain⟨f0,f1,f2,f3,f4,f5,f6,f7⟩:=IV.out w4 H4.out.2.1;have HT4:Hid (Calls prog 65 #[.agg #[.int .i64 kind,.int .i64 size,.int .i64 slide,.int .i64 late,.int .i64 agg,.int .i64 kq],.agg #[Sv xk,.int .i64 xl,.int .i64 xh,.int .i64 xn,.int .i64 xa,Su,xz,.int .i64 1]] w4 (xI w4 (kS Q y.p))):=by
      have h:=iR.out w4 y H4.out.2.2 HY.out.2.1;rw[VF.out,iV.out]at h;exact Lh h
     go_upto_region 10 with(fail);refine bg4 ?_
     iterate 9 go_step
     refine wpList_plain rfl λK hK=>?_;go_step;refine HT4.out.mono ?_;rintro e w5 ⟨tv,ht,rfl,hI,hB,Yl⟩;refine hK _ _ ?_;clear hK d0 d1 d2 d3 d4 d5 f0 f1 f2 f3 f4 f5 f6 f7;obtain⟨O,Ym⟩:=Nm (⟨kS Q y.p,tv,ht⟩:bM);rw[<-Ym];refine mH rfl (.tmp 39) rfl O rfl ?_;have Zc:Bw w5 (w5.alloc (.cells O.cells 50)):=(Below.refl _ w5).alloc (bfx _) _;obtain⟨w6,SN⟩:=Nm (w5.alloc (.cells O.cells 50));obtain⟨ob,Vm⟩:=Nm (w5.heap.size);have hrow:jN w6 ob O:=by rw[SN,Vm];exact bg5 w5 _
     rw[<-SN]at Zc;have H6:Hid (Ch w qb sb rb bb Q m t (.slice (some ⟨pa,Tu,none⟩) n sc) (.slice oa ol.length oc) ol bv bl w6/\cz w6 xb y/\bR w6 y/\jN w6 ob O/\dO w6 O/\O.o=kS Q y.p/\∀a n c,O.tv=.slice (some a) n c->w4.heap.size<=a.block):=by
      have ed:=Tb hB Zc;refine Lh ⟨H4.out.1.below ed,H4.out.2.1.below ed,H4.out.2.2.below ed,hrow,?_,by rw[Ym],by rw[Ym];exact Yl⟩
      rw[Ym];exact hI.below Zc
     have HS4:Hid (bb<w4.heap.size/\(∀k,(Value.slice oa ol.length oc).ownBlock=some k->k<w4.heap.size)/\(∀k,bv.ownBlock=some k->k<w4.heap.size)):=Lh ⟨H4.out.1.2.2.2.1.lt,λk e=>(H4.out.1.2.2.2.2.2.1.1.lt e).2,λk e=>(H4.out.1.2.2.2.2.1.1.lt e).2⟩;rw[<-SN,<-Vm];clear SN Vm Zc hB hI Yl Ym hrow H4;refine rE rfl (.tmp 36) (.tmp 40) rfl (bb+1) _ ol rfl H6.out.1.2.2.2.2.2.1.1 O ob rfl (λj z hz=>H6.out.2.2.2.1.cell j hz) (by have:=HO.out.1;have:=HX.out.2.2;omega) (by have:=H6.out.1.2.2.2.1.lt;omega) ?_
     intro v7 w7 g1 g2 g3;have H7:Hid (∃Wu,Wu.length<=i+1/\Wu.map bM.o=gZ Q t (ps.take (i+1))/\Ch w qb sb rb bb Q m t (.slice (some ⟨pa,Tu,none⟩) n sc) v7 Wu bv bl w7/\cz w7 xb y/\bR w7 y):=by
      obtain⟨⟨j1,j2,j3,j4,j5,j6,j7,j8,XH,j9⟩,k1,k2,k3,k4,k5,k6⟩:=H6.out;obtain⟨s1,s2,s3⟩:=HS4.out;obtain⟨_,_,b1,_,b2,b3,b4⟩:=Sn.out;have hb:=SA.out;have hgr:=H2.out.2;have hsz:w.heap.size<=bb:=by omega
      have hne:∀b,b<=bb->some b≠(Value.slice oa ol.length oc).ownBlock:=λb hb e=>by have:=j6.1.lt e.symm;omega
      have hpush:=j6.push k4 (λa n' c e _ he=>by have h1:=k6 a n' c e;have h2:=s2 _ he;omega) g1 g2 g3
      refine Lh ⟨ol++[O],by rw[bft,bg0];have:=HO.out.1;omega,?_,⟨(g2.block qb j1.lt (hne qb (by omega))).trans j1,j2.grown g2 (hne sb (by omega)),j3.grown g2 (hne rb (by omega)),j4.grown g2 (hne bb (bfx _)),j5.keep g2 (mU j5.1 j6.1) (λz hz a n' c e hne' he=>?_),hpush,j7.trans ⟨g2.os,g2.tape,g2.output,g2.size,λk hk=>g2.block k (by have:=j7.size;omega) (hne k (by omega))⟩,λz hz a n' c e=>?_,λz hz a n' c e hne'=>?_,j9⟩,?_,?_⟩
      ·rw[bgl,HO.out.2.2.1,uh.out,if_pos HF.out,List.map_singleton,k5,HY.out.1]
      ·have h1:=j9 z hz a n' c e hne';have h2:=j6.1.lt he;omega
      ·rcases List.mem_append.1 hz with hz | hz
       ·exact j8 z hz a n' c e
       rw[List.mem_singleton.1 hz]at e;have h1:=k6 a n' c e;omega
      ·rcases List.mem_append.1 hz with hz | hz
       ·exact XH z hz a n' c e hne'
       rw[List.mem_singleton.1 hz]at e;intro he;have h1:=k6 a n' c e;have:=s3 _ he;omega
      ·exact(g2.block xb k1.lt (λe=>by exact b3 xb e.symm rfl)).trans k1
      refine⟨bA.qR k2.1 g2 (λa n' c e hne' he=>?_),k2.2⟩;have h1:=aP.out a n' c (by rw[<-HY.out.2.2.1];exact e) (by rw[<-HY.out.2.2.2];exact hne')
      have h2:=j6.1.lt he;omega
     obtain⟨Wu,ho7,hm7,Ox⟩:=H7.out;obtain⟨ET,EU,hv7,_,_⟩:=Ox.1.2.2.2.2.2.1.1.form;have H8:=Lh (bfy ho7 (bfy hm7 Ox));subst hv7;clear ho7 hm7 Ox g1 g2 g3 H7 H6;obtain⟨d0,d1,d2,d3,d4,d5⟩:=SV.out w7 (H8.out.2.2.1).1;obtain⟨f0,f1,f2,f3,f4,f5,f6,f7⟩:=IV.out w7 (H8.out.2.2.2.1)
     cases gn with
     | true=>
      go_wp2_with(fail);refine(WP.out w7).mono ?_;rintro e w8 ⟨rfl,hB⟩;have HZ:=Lh ((H8.out.2.2.1).below hB);clear hB d0 d1 d2 d3 d4 d5 f0 f1 f2 f3 f4 f5 f6 f7;dsimp only;go_wp2_with(fail);refine⟨⟨i+1,by rw[HN.out.2];exact HX.out.2.2,rfl,Wu,bv,bl,H8.out.1,by have:=HO.out.2.1;omega,H8.out.2.1,?_,HZ.out⟩,by rw[dU,dU];have:=HX.out.2.2;omega⟩
      rw[iM.out,if_pos (by trivial),bg2]
      exact HO.out.2.2.2.1
     | false=>
      go_wp2_with(fail);refine(WP.out w7).mono ?_;rintro e w8 ⟨rfl,hB⟩;have H9:Hid (Ch w qb sb rb bb Q m t (.slice (some ⟨pa,Tu,none⟩) n sc) (.slice ET Wu.length EU) Wu bv bl w8/\cz w8 xb y/\bR w8 y):=Lh ⟨(H8.out.2.2.1).below hB,(H8.out.2.2.2.1).below hB,(H8.out.2.2.2.2).below hB⟩;clear hB d0 d1 d2 d3 d4 d5 f0 f1 f2 f3 f4 f5 f6 f7;dsimp only;obtain⟨f0,f1,f2,f3,f4,f5,f6,f7⟩:=IV.out w8 H9.out.2.1;obtain⟨e0,e1⟩:=H9.out.1.2.2.2.1.d2;go_upto_region 12 with(fail);refine bg4 ?_
      iterate 9 go_step
      refine fD rfl (.tmp 50) rfl y (by show _=Value.agg y.cells;rw[iV.out];rfl) ?_
      have TP:Bw w8 (w8.alloc (.cells y.cells 55)):=(Below.refl _ w8).alloc (bfx _) _;obtain⟨Vo,Tk⟩:=Nm (w8.alloc (.cells y.cells 55));obtain⟨nb,hnb⟩:=Nm (w8.heap.size);have hrow:cz Vo nb y:=by rw[Tk,hnb];exact bg5 w8 _
      rw[<-Tk]at TP;have TV:Hid (Ch w qb sb rb bb Q m t (.slice (some ⟨pa,Tu,none⟩) n sc) (.slice ET Wu.length EU) Wu bv bl Vo/\cz Vo nb y/\bR Vo y):=Lh ⟨H9.out.1.below TP,hrow,H9.out.2.2.below TP⟩;rw[<-Tk,<-hnb];clear Tk hnb TP hrow f0 f1 f2 f3 f4 f5 f6 f7 e0 e1;refine gJ rfl (.tmp 49) (.tmp 51) rfl (bb+1) bv bl rfl TV.out.1.2.2.2.2.1.1 y nb rfl (λj z hz=>TV.out.2.1.cell j hz) (by have:=HO.out.2.1;have:=HX.out.2.2;omega) (by have:=TV.out.1.2.2.2.1.lt;omega) ?_
      intro v11 Tq g1 g2 g3;have TL:Hid (dn Tq qb Q/\bT Tq sb m (.slice (some ⟨pa,Tu,none⟩) n sc)/\bT Tq rb 0 bS/\bT Tq bb t bv/\jB Tq (bb+1) v11 (bl++[y])/\kw Tq (bb+1) (.slice ET Wu.length EU) Wu/\Bw w Tq/\(∀x∈Wu,∀a n c,x.tv=.slice (some a) n c->bb<a.block)/\(∀x∈Wu,∀a n c,x.tv=.slice (some a) n c->x.o.v≠[]->v11.ownBlock≠some a.block)/\∀x∈bl++[y],∀a n c,x.tv=.slice (some a) n c->x.p.a.top≠[]->a.block<w.heap.size):=by
       obtain⟨⟨j1,j2,j3,j4,j5,j6,j7,j8,XH,j9⟩,k1,k2⟩:=TV.out;have hb:=SA.out;have hgr:=H2.out.2;have hsz:w.heap.size<=bb:=by omega
       have hne:∀b,b<=bb->some b≠bv.ownBlock:=λb hb e=>by have:=j5.1.lt e.symm;omega
       have Wt:∀a n c,y.tv=.slice (some a) n c->y.p.a.top≠[]->a.block<w.heap.size:=λa n' c e hne'=>aP.out a n' c (by rw[<-HY.out.2.2.1];exact e) (by rw[<-HY.out.2.2.2];exact hne')
       have hpush:=j5.push k2 (λa n' c e hne' he=>by have h1:=Wt a n' c e hne';have h2:=j5.1.lt he;omega) g1 g2 g3
       refine Lh ⟨(g2.block qb j1.lt (hne qb (by omega))).trans j1,j2.grown g2 (hne sb (by omega)),j3.grown g2 (hne rb (by omega)),j4.grown g2 (hne bb (bfx _)),hpush,j6.keep g2 (lQ j5.1 j6.1) (λz hz a n' c e hne'=>XH z hz a n' c e hne'),j7.trans ⟨g2.os,g2.tape,g2.output,g2.size,λk hk=>g2.block k (by have:=j7.size;omega) (hne k (by omega))⟩,λz hz a n' c e=>j8 z hz a n' c e,λz hz a n' c e hne' he=>?_,λz hz a n' c e hne'=>?_⟩
       ·rcases g3 with g3 | g3
        ·rw[g3]at he;exact XH z hz a n' c e hne' he
        rw[g3]at he;have:=bA.lt (j6.2 z hz).1 e hne';have he':=Option.some.inj he;omega
       rcases List.mem_append.1 hz with hz | hz
       ·exact j9 z hz a n' c e hne'
       rw[List.mem_singleton.1 hz]at e hne';exact Wt a n' c e hne'
      have Vb:v11.oneCell'=true/\v11.cells=#[v11]:=by
       rcases g1.shape with⟨rfl,_⟩ | ⟨g',c',rfl,_⟩ <;> exact⟨rfl,rfl⟩
      clear g1 g2 g3;obtain⟨e0,e1⟩:=TL.out.2.2.2.1.d2
      iterate 3 go_step
      refine bU rfl _ (.tmp 53) (.tmp 52) rfl ⟨bb,1,none⟩ v11 bv rfl rfl Vb.2 Vb.1 sizeOf27 e1 (bT.qi TL.out.2.2.2.1 1) ?_;obtain⟨Xh,Tm⟩:=Nm (Tq.setCell ⟨bb,1,none⟩ v11);have Tc:Hid (Ch w qb sb rb bb Q m t (.slice (some ⟨pa,Tu,none⟩) n sc) (.slice ET Wu.length EU) Wu v11 (bl++[y]) Xh):=by
       have hg:Tq.grownBy Xh (some bb):=by rw[Tm];exact bL _ _ _ _
       obtain⟨j1,j2,j3,j4,j5,j6,j7,j8,j9,j10⟩:=TL.out;have hb:=SA.out;have hgr:=H2.out.2;have hsz:w.heap.size<=bb:=by omega
       refine Lh ⟨dn.below' j1 hg (by omega),j2.grown hg (by simp;omega),j3.grown hg (by simp;omega),by rw[Tm];exact j4.set1 v11,j5.keep hg (.inr (λe=>by have:=j5.1.lt e;omega)) (λz hz a n' c e hne' he=>?_),j6.keep hg (.inr (λe=>by have:=j6.1.lt e;omega)) (λz hz a n' c e _ he=>?_),j7.trans (bG hg (by omega) j7.size),j8,j9,j10⟩
       ·cases he
        have:=j10 z hz a n' c e hne';omega
       cases he
       have:=j8 z hz a n' c e;omega
      rw[<-Tm];clear Tm e0 e1 Vb;go_wp2_with(fail);refine⟨⟨i+1,by rw[HN.out.2];exact HX.out.2.2,rfl,Wu,v11,bl++[y],H8.out.1,by rw[bft,bg0];have:=HO.out.2.1;omega,H8.out.2.1,?_,Tc.out⟩,by rw[dU,dU];have:=HX.out.2.2;omega⟩
      rw[iM.out,if_neg (by simp),bgl,HO.out.2.2.2.1,List.map_singleton]
      congr 2
      exact HY.out.1
   have O0:(xr==0)=false:=by simpa using hr0
   have HF:Hid (fV t x_.p=false):=by rw[Ip.out,bfq hr0];exact Lh rfl
   have H5:Hid (Ch w qb sb rb bb Q m t (.slice (some ⟨pa,Tu,none⟩) n sc) (.slice oa ol.length oc) ol bv bl wx/\cz wx xb x_/\bR wx x_):=Lh ⟨Sn.out.2.1,Sn.out.1,Sn.out.2.2.2.1⟩;clear hr0;go_upto_region 11 with(fail);clear f0 f1 f2 f3 f4 f5 f6 f7 O0;obtain⟨d0,d1,d2,d3,d4,d5⟩:=SV.out wx (H5.out.1).1;obtain⟨f0,f1,f2,f3,f4,f5,f6,f7⟩:=Yf.out wx (H5.out.2.1)
   cases gn with
   | true=>
    go_wp2_with(fail);refine(WP.out wx).mono ?_;rintro e w8 ⟨rfl,hB⟩;have HZ:=Lh ((H5.out.1).below hB);clear hB d0 d1 d2 d3 d4 d5 f0 f1 f2 f3 f4 f5 f6 f7;dsimp only;go_wp2_with(fail);refine⟨⟨i+1,by rw[HN.out.2];exact HX.out.2.2,rfl,ol,bv,bl,by have:=HO.out.1;omega,by have:=HO.out.2.1;omega,(by rw[uh.out,if_neg (by rw[HF.out];simp),bg2];exact HO.out.2.2.1),?_,HZ.out⟩,by rw[dU,dU];have:=HX.out.2.2;omega⟩
    rw[iM.out,if_pos (by trivial),bg2]
    exact HO.out.2.2.2.1
   | false=>
    go_wp2_with(fail);refine(WP.out wx).mono ?_;rintro e w8 ⟨rfl,hB⟩;have H9:Hid (Ch w qb sb rb bb Q m t (.slice (some ⟨pa,Tu,none⟩) n sc) (.slice oa ol.length oc) ol bv bl w8/\cz w8 xb x_/\bR w8 x_):=Lh ⟨(H5.out.1).below hB,(H5.out.2.1).below hB,(H5.out.2.2).below hB⟩;clear hB d0 d1 d2 d3 d4 d5 f0 f1 f2 f3 f4 f5 f6 f7;dsimp only;obtain⟨f0,f1,f2,f3,f4,f5,f6,f7⟩:=Yf.out w8 H9.out.2.1;obtain⟨e0,e1⟩:=H9.out.1.2.2.2.1.d2;go_upto_region 12 with(fail);refine bg4 ?_
    iterate 9 go_step
    refine fD rfl (.tmp 50) rfl x_ (by show _=Value.agg x_.cells;rw[SY.out];rfl) ?_
    have TP:Bw w8 (w8.alloc (.cells x_.cells 55)):=(Below.refl _ w8).alloc (bfx _) _;obtain⟨Vo,Tk⟩:=Nm (w8.alloc (.cells x_.cells 55));obtain⟨nb,hnb⟩:=Nm (w8.heap.size);have hrow:cz Vo nb x_:=by rw[Tk,hnb];exact bg5 w8 _
    rw[<-Tk]at TP;have TV:Hid (Ch w qb sb rb bb Q m t (.slice (some ⟨pa,Tu,none⟩) n sc) (.slice oa ol.length oc) ol bv bl Vo/\cz Vo nb x_/\bR Vo x_):=Lh ⟨H9.out.1.below TP,hrow,H9.out.2.2.below TP⟩;rw[<-Tk,<-hnb];clear Tk hnb TP hrow f0 f1 f2 f3 f4 f5 f6 f7 e0 e1;refine gJ rfl (.tmp 49) (.tmp 51) rfl (bb+1) bv bl rfl TV.out.1.2.2.2.2.1.1 x_ nb rfl (λj z hz=>TV.out.2.1.cell j hz) (by have:=HO.out.2.1;have:=HX.out.2.2;omega) (by have:=TV.out.1.2.2.2.1.lt;omega) ?_
    intro v11 Tq g1 g2 g3;have TL:Hid (dn Tq qb Q/\bT Tq sb m (.slice (some ⟨pa,Tu,none⟩) n sc)/\bT Tq rb 0 bS/\bT Tq bb t bv/\jB Tq (bb+1) v11 (bl++[x_])/\kw Tq (bb+1) (.slice oa ol.length oc) ol/\Bw w Tq/\(∀x∈ol,∀a n c,x.tv=.slice (some a) n c->bb<a.block)/\(∀x∈ol,∀a n c,x.tv=.slice (some a) n c->x.o.v≠[]->v11.ownBlock≠some a.block)/\∀x∈bl++[x_],∀a n c,x.tv=.slice (some a) n c->x.p.a.top≠[]->a.block<w.heap.size):=by
     obtain⟨⟨j1,j2,j3,j4,j5,j6,j7,j8,XH,j9⟩,k1,k2⟩:=TV.out;have hb:=SA.out;have hgr:=H2.out.2;have hsz:w.heap.size<=bb:=by omega
     have hne:∀b,b<=bb->some b≠bv.ownBlock:=λb hb e=>by have:=j5.1.lt e.symm;omega
     have Wt:∀a n c,x_.tv=.slice (some a) n c->x_.p.a.top≠[]->a.block<w.heap.size:=λa n' c e hne'=>aP.out a n' c (e) (hne');have hpush:=j5.push k2 (λa n' c e hne' he=>by have h1:=Wt a n' c e hne';have h2:=j5.1.lt he;omega) g1 g2 g3
     refine Lh ⟨(g2.block qb j1.lt (hne qb (by omega))).trans j1,j2.grown g2 (hne sb (by omega)),j3.grown g2 (hne rb (by omega)),j4.grown g2 (hne bb (bfx _)),hpush,j6.keep g2 (lQ j5.1 j6.1) (λz hz a n' c e hne'=>XH z hz a n' c e hne'),j7.trans ⟨g2.os,g2.tape,g2.output,g2.size,λk hk=>g2.block k (by have:=j7.size;omega) (hne k (by omega))⟩,λz hz a n' c e=>j8 z hz a n' c e,λz hz a n' c e hne' he=>?_,λz hz a n' c e hne'=>?_⟩
     ·rcases g3 with g3 | g3
      ·rw[g3]at he;exact XH z hz a n' c e hne' he
      rw[g3]at he;have:=bA.lt (j6.2 z hz).1 e hne';have he':=Option.some.inj he;omega
     rcases List.mem_append.1 hz with hz | hz
     ·exact j9 z hz a n' c e hne'
     rw[List.mem_singleton.1 hz]at e hne';exact Wt a n' c e hne'
    have Vb:v11.oneCell'=true/\v11.cells=#[v11]:=by
     rcases g1.shape with⟨rfl,_⟩ | ⟨g',c',rfl,_⟩ <;> exact⟨rfl,rfl⟩
    clear g1 g2 g3;obtain⟨e0,e1⟩:=TL.out.2.2.2.1.d2
    iterate 3 go_step
    refine bU rfl _ (.tmp 53) (.tmp 52) rfl ⟨bb,1,none⟩ v11 bv rfl rfl Vb.2 Vb.1 sizeOf27 e1 (bT.qi TL.out.2.2.2.1 1) ?_;obtain⟨Xh,Tm⟩:=Nm (Tq.setCell ⟨bb,1,none⟩ v11);have Tc:Hid (Ch w qb sb rb bb Q m t (.slice (some ⟨pa,Tu,none⟩) n sc) (.slice oa ol.length oc) ol v11 (bl++[x_]) Xh):=by
     have hg:Tq.grownBy Xh (some bb):=by rw[Tm];exact bL _ _ _ _
     obtain⟨j1,j2,j3,j4,j5,j6,j7,j8,j9,j10⟩:=TL.out;have hb:=SA.out;have hgr:=H2.out.2;have hsz:w.heap.size<=bb:=by omega
     refine Lh ⟨dn.below' j1 hg (by omega),j2.grown hg (by simp;omega),j3.grown hg (by simp;omega),by rw[Tm];exact j4.set1 v11,j5.keep hg (.inr (λe=>by have:=j5.1.lt e;omega)) (λz hz a n' c e hne' he=>?_),j6.keep hg (.inr (λe=>by have:=j6.1.lt e;omega)) (λz hz a n' c e _ he=>?_),j7.trans (bG hg (by omega) j7.size),j8,j9,j10⟩
     ·cases he
      have:=j10 z hz a n' c e hne';omega
     cases he
     have:=j8 z hz a n' c e;omega
    rw[<-Tm];clear Tm e0 e1 Vb;go_wp2_with(fail);refine⟨⟨i+1,by rw[HN.out.2];exact HX.out.2.2,rfl,ol,v11,bl++[x_],by have:=HO.out.1;omega,by rw[bft,bg0];have:=HO.out.2.1;omega,(by rw[uh.out,if_neg (by rw[HF.out];simp),bg2];exact HO.out.2.2.1),?_,Tc.out⟩,by rw[dU,dU];have:=HX.out.2.2;omega⟩
    rw[iM.out,if_neg (by simp),bgl,HO.out.2.2.2.1,List.map_singleton]
    congr 2
    rw[jc,if_neg (by rw[HF.out];simp)]
  obtain rfl:i=n:=by omega
  clear hlt hi;have WV:Hid (ps.take i=ps):=Lh (by rw[<-HN.out.2];exact bgs)
  have HS:=Lh (MN wr (bb+1) (.slice oa ol.length oc) ol HO.out.2.2.2.2.2.2.2.2.2.1.1 (by have:=HO.out.1;omega))
  go_wp2_with(fail);refine HS.out.mono ?_;rintro e w3 ⟨rfl,YQ,hperm,hsort,hO3,hg3⟩;have H3:Hid (bT w3 rb 0 bS/\bT w3 bb t bv/\bO w3 bv bl/\(∀x∈bl,bR w3 x)/\fw w3 (.slice oa ol.length oc) (YQ.map bM.o)/\(YQ.map bM.o).Perm (gZ Q t ps)/\(YQ.map bM.o).Pairwise (λa b=>¬zg b a)/\bl.map bn.p=kT Q t ps/\Bw w w3/\(∀x∈bl,∀a n c,x.tv=.slice (some a) n c->x.p.a.top≠[]->a.block<w.heap.size)/\(∀x∈YQ,∀a n c,x.tv=.slice (some a) n c->bb<a.block)/\bY w3 (bb+1) bv bl/\fe w3 (bb+1) (.slice oa ol.length oc) YQ/\∀x∈YQ,dO w3 x):=by
   obtain⟨_,_,hm1,hm2,j1,j2,j3,j4,j5,j6,j7,j8,XH,j9⟩:=HO.out;have hb:=SA.out;have hgr:=H2.out.2;have hsz:w.heap.size<=bb:=by omega
   have hne:∀b,b<=bb->some b≠(Value.slice oa ol.length oc).ownBlock:=λb hb e=>by have:=j6.1.lt e.symm;omega
   have hgood:∀x∈YQ,dO w3 x:=λx hx=>by
    have hx2:=j6.2 x (hperm.mem_iff.1 hx);exact bA.qR hx2.1 hg3 hx2.2
   have h5:=j5.keep hg3 (mU j5.1 j6.1) (λz hz a n' c e hne' he=>by have h1:=j9 z hz a n' c e hne';have h2:=j6.1.lt he;omega)
   obtain⟨Vx,Vy,hv',hc',Ta⟩:=hO3.form;rw[WV.out]at hm1 hm2;refine Lh ⟨j3.grown hg3 (hne rb (by omega)),j4.grown hg3 (hne bb (bfx _)),h5.1.ins,λx hx=>(h5.2 x hx).1,⟨Vx,Vy,YQ,hv',hc',Ta,hgood,rfl⟩,by rw[<-hm1];exact hperm.map _,?_,hm2,j7.trans ⟨hg3.os,hg3.tape,hg3.output,hg3.size,λk hk=>hg3.block k (by have:=j7.size;omega) (hne k (by omega))⟩,j9,λx hx a n' c e=>j8 x (hperm.mem_iff.1 hx) a n' c e,h5.1,hO3,hgood⟩
   rw[List.pairwise_map];exact hsort.imp λh h'=>h ((kX _ _).2 h')
  clear hperm hsort hO3 hg3;dsimp only;obtain⟨e0,e1⟩:=H3.out.2.1.d2;go_upto_region 15 with(fail);refine bg4 ?_
  iterate 6 go_step
  refine bg6 rfl _ _ _ rfl rb #[.int .i64 t,bv] rfl rfl 29 #[.int .i64 0,bS] H3.out.1 bF rfl (cB H3.out.2.2.1.one) ?_;obtain⟨w9,SI⟩:=Nm (w3.setRow rb #[.int .i64 t,bv]);have H9:Hid (bT w9 rb t bv/\P (.returned (.tuple #[.agg #[.int .i64 t,bv],.slice oa ol.length oc])) w9):=by
   have hg:w3.grownBy w9 (some rb):=by rw[SI];exact bC _ _ _
   obtain⟨j1,j2,j3,j4,j5,j6,j7,j8,j9,j10,j11,j12,j13,j14⟩:=H3.out;have hb:=SA.out;have hgr:=H2.out.2;have hO9:=j13.kept hg (.inr (λe=>by have:=j13.lt e;omega))
   obtain⟨Vx,Vy,hv',hc',Ta⟩:=hO9.form;refine Lh ⟨by rw[SI];exact j1.reset t bv,Sl.out HT.out w9 bv bl _ (YQ.map bM.o) (j12.kept hg (.inr (λe=>by have:=j12.lt e;omega))).ins (λx hx=>⟨(j4 x hx).1.grown hg (λa n' c e hne he=>by have:=j10 x hx a n' c e hne;omega),(j4 x hx).2⟩) j8 ⟨Vx,Vy,YQ,hv',hc',Ta,λx hx=>bA.grown (j14 x hx) hg (λa n' c e hne he=>by have:=j11 x hx a n' c e;omega),rfl⟩ j6 j7 (j9.trans (bG hg (by omega) j9.size))⟩
  rw[<-SI];clear SI e0 e1;go_wp2_with(fail);exact bodyPost_ret (v:=.tuple #[.agg #[.int .i64 t,bv],.slice oa ol.length oc]) ((bK (p:=6) (u:=7) (ty:=29) rfl _ _ rb 29 #[.int .i64 t,bv] (0,0) _ rfl H9.out.1 underlying29 rfl bF).trans rfl) rfl H9.out.2
end Go.Proofs.YtjeeghafachebaaGreat
