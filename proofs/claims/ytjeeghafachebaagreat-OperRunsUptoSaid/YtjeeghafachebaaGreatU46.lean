/-
  46.
-/
import Derived.Test.YtjeeghafachebaaGreatU45
import Derived.Test.YtjeeghafachebaaGreatU44
set_option maxRecDepth 100000
set_option maxHeartbeats 8000000
namespace Go.Proofs.YtjeeghafachebaaGreat
open Go Go.RowKit Go.Proofs.Tryz
theorem DZ(w:World)(g:Nat)(u:Value)(l:List Int)(ty:TypeId)(h:bA w u l)(hl:l.length<=1000):
  ∃v' w',(Builtin.append_ #[48,48] ty #[.slice (some ⟨g,0,none⟩) 0 0,u]).run prog w=.ok v' w'/\bA w' v' l/\Bw w w':=by
 obtain⟨i,hi,hz,hs,hby⟩:=info_parts (P:=prog) (e:=3) (z:=.int .i64 0) (size:=1) (bytes:=8) (by kernel_rfl)
 obtain⟨a,c,rfl,hc,hI⟩:=h
 cases l with
 | nil=>
  refine⟨.slice (some ⟨g,0,none⟩) 0 0,w,?_,⟨_,0,rfl,bfx _,.inr ⟨g,0,rfl,.inl rfl,λi x hx=>by simp at hx⟩⟩,Br⟩
  cases a <;> simp[Builtin.append_,run_underlying underlying48,sizeOf,typeInfo,hi,Builtin.lenOf,Builtin.firstCells,storeCells,loadCells,loadCellsFrom]
 | cons x l=>
  rcases hI with⟨_,h⟩ | ⟨b,o,rfl,ht,h⟩
  ·cases h
  obtain⟨v',w',hr,how,hg⟩:=run_append_arg_grows (P:=prog) w 48 ty 3 i _ 1 8 underlying48 hi hz hs hby rfl (by decide) ⟨g,0,none⟩ 0 0 [] rfl (λj u hj=>by simp at hj) ⟨b,o,none⟩ (x::l).length c (kG (x::l)) (by simp[kG]) (λj u hj=>by
   rw[addr_add];simp only[kG,bgf,Option.map_eq_some_iff]at hj;obtain⟨y,hy,rfl⟩:=hj;exact h j y hy) (by simp) (by unfold maxLen;omega) (by omega)
  have hB:Bw w w':=⟨hg.os,hg.tape,hg.output,hg.size,λk hk=>hg.block k hk (by simp)⟩
  refine⟨v',w',hr,?_,hB⟩;have hO:gF w' w.heap.size v' (x::l):=by
   unfold gF Own;simpa[kG]using how
  exact hO.ints
theorem zn {o:Oper} {a:Act} {w:World} {K:Act->World->Prop} {Q:Exit->Act->World->Prop}(s x:Operand)(ho:o.op=.call { callee:=.builtin .append,args:=#[s,x],argTypes:=#[48,48] })
  (g:Nat) (hs:a.eval s=.slice (some ⟨g,0,none⟩) 0 0) (u:Value) (hx:a.eval x=u) (l:List Int) (h:bA w u l) (hl:l.length<=1000) (k:∀v' w',bA w' v' l->Bw w w'->K (a.put o.dst v') w'):o.wp prog a w K Q:=by
 obtain⟨v',w',hr,h2,h3⟩:=DZ w g u l o.type h hl;unfold Oper.wp execOp;simp only[ho,resolve,invoke,builtin,Sem.run_bind,Sem.run_pure,Result.andThen_ok,bgb,bgc,bge,hs,hx,hr];exact k v' w' h2 h3
def qH(w:World)(m:dS)(ok:Bool)(e:Ending)(w':World):Prop:=∃tv z,e=.returned (.tuple #[.agg (bI m.n m.a tv z),.bool ok])/\bA w' tv m.top/\dw z m.u m.v/\Bw w w'
def rJ(k:Nat)(l m:List Int):List Int:=m.foldl (λacc v=>(jD v acc).take k) l
theorem CX(k:Nat):∀(m l:List Int),rJ k (lT k l) m=lT k (l++m)
 | [],l=>by rw[bg2];rfl
 | v::m,l=>by
  show rJ k ((jD v (lT k l)).take k) m=_;rw[PH,CX k m (l++[v]),bgz];rfl
theorem JF(k:Nat)(l m:List Int)(v:Int):rJ k l (m++[v])=(jD v (rJ k l m)).take k:=by
 unfold rJ;rw[List.foldl_append];rfl
theorem CW(k:Nat):∀(m l:List Int),l.length<=8->k<=8->(rJ k l m).length<=8
 | [],_,h,_=>h
 | v::m,l,h,hk=>CW k m _ (by rw[bga];omega) hk
theorem jO.apart {w:World} {qb b1 b2 b6 b8:Nat} {Q:bz} {n1 a1:Int} {Sk z1:Value} {n2 a2:Int} {Sq z2:Value} {n a:Int} {tv z:Value} {w' w'':World}(h:jO w qb b1 b2 b6 b8 Q n1 a1 Sk z1 n2 a2 Sq z2 n a tv z w') {t:Value} {l:List Int}(hI:bA w' t l)(hg:w'.grownBy w'' (some b8)):bA w'' t l:=
 hI.grown hg (λ_ _ _ e hne=>hI.apart e hne h.2.2.2.2.2.1 (by decide))
def Ri(w:World)(qb b1 b2 b6 b8:Nat)(Q:bz)(n1 a1:Int)(Sk z1:Value)(n2 a2:Int)(Sq z2:Value)(n a:Int)(z:Value)(k:Nat)(l1 l2:List Int)(v:Value)(wr:World):Prop:=
 ∃(j:Nat) (tv:Value),j<=l2.length/\v=.int .i64 (j:Int)/\jO w qb b1 b2 b6 b8 Q n1 a1 Sk z1 n2 a2 Sq z2 n a tv z wr/\bA wr tv (rJ k l1 (l2.take j))/\bA wr Sq l2
def QH(B:Nat)(n a:Int)(z:Value)(l1:List Int):List (Nat × (Nat->World->Value->Prop)):=
 [(15,λ_ _ v=>∃g,v=Value.slice (some ⟨g,0,none⟩) 0 0),(18,λ_ w v=>bA w v l1),(19,λ_ w v=>∃tv,v=.agg #[.int .i64 n,.int .i64 a,tv,z]/\bA w tv l1),
  (20,λk w v=>∃b,v=.pointer (some ⟨b,0,none⟩)/\B<=b/\if k<=1 then bW w b 0 0 bS fU else ∃tv,bW w b n a tv z/\bA w tv l1)]
theorem QI {B:Nat} {n a:Int} {z:Value} {l1:List Int}:∀p∈QH B n a z l1,∀k w w' v,Bw w w'->p.2 k w v->p.2 k w' v:=by
 intro p hp k w w' v hB h;simp only[QH,bf2,bf9,or_false]at hp;rcases hp with rfl | rfl | rfl | rfl
 ·exact h
 ·exact bA.below h hB
 ·obtain⟨tv,h1,h2⟩:=h;exact⟨tv,h1,h2.below hB⟩
 obtain⟨b,h1,h2,h3⟩:=h;refine⟨b,h1,h2,?_⟩
 split at h3
 ·rename_i hk;rw[if_pos hk];exact h3.below hB
 rename_i hk;rw[if_neg hk];obtain⟨tv,h4,h5⟩:=h3;exact⟨tv,h4.below hB,h5.below hB⟩
theorem Lf {B:Nat} {n a:Int} {z:Value} {l1:List Int} {w w':World} {l:List Oper} {ac:Act}(hB:Bw w w'):∀p∈QH B n a z l1,20=p.1∨∀d,dQ l p.1=some d->p.2 0 w (ac.eval (.tmp d))->p.2 1 w' (ac.eval (.tmp d)):=by
 intro p hp;simp only[QH,bf2,bf9,or_false]at hp;rcases hp with rfl | rfl | rfl | rfl
 ·exact .inr λd _ h=>h
 ·exact .inr λd _ h=>bA.below h hB
 ·refine .inr λd _ h=>?_;obtain⟨tv,h1,h2⟩:=h;exact⟨tv,h1,h2.below hB⟩
 exact .inl rfl
theorem Nl {B t:Nat} {n a:Int} {z:Value} {l1:List Int} {w w':World} {b:Nat} {tv:Value} {l:List Oper} {ac:Act}(hl:dQ l 20=some t)(ha:ac.eval (.tmp t)=.pointer (some ⟨b,0,none⟩))(hb:bW w b 0 0 bS fU)(hBb:B<=b)(hg:w.grownBy w' (some b))(hr:bW w' b n a tv z)(hI:bA w tv l1):
  ∀p∈QH B n a z l1,21=p.1∨∀d,dQ l p.1=some d->p.2 1 w (ac.eval (.tmp d))->p.2 2 w' (ac.eval (.tmp d)):=by
 have hap:∀{u:Value},bA w u l1->bA w' u l1:=λh=>h.grown hg (λ_ _ _ e hne=>h.apart e hne hb (by decide))
 intro p hp;simp only[QH,bf2,bf9,or_false]at hp;rcases hp with rfl | rfl | rfl | rfl
 ·exact .inr λd _ h=>h
 ·exact .inr λd _ h=>hap h
 ·refine .inr λd _ h=>?_;obtain⟨u,h1,h2⟩:=h;exact⟨u,h1,hap h2⟩
 refine .inr λd hd _=>?_;rw[hl]at hd;cases hd
 refine⟨b,ha,hBb,?_⟩;rw[if_neg (by decide)]
 exact⟨tv,hr,hap hI⟩
theorem Kc(w:World)(q:bz)(x y:dS)(Sk z1 Sq z2:Value)(h1:bA w Sk x.top)(h2:bA w Sq y.top)(k1:dw z1 x.u x.v)(k2:dw z2 y.u y.v)(hx:x.bB q=true)(hy:y.bB q=true):
  Calls prog 81 #[.agg q.cells,.agg (bI x.n x.a Sk z1),.agg (bI y.n y.a Sq z2)] w (qH w (dA q x y).1 (decide ((dA q x y).2=0))):=by
 have mixed:prog.follows .mixedOrders=true:=by kernel_rfl
 obtain⟨P,hP⟩:=Nm (qH w (dA q x y).1 (decide ((dA q x y).2=0)));rw[<-hP];obtain⟨m,hm⟩:=Nm (x.merge q y);obtain⟨r3,hr3⟩:=Nm (m.bB q);have hEq:=Di hx hy;rw[<-hm,<-hr3]at hEq;have Va:Hid (r3=true->∀w' tv z,bA w' tv m.top->dw z m.u m.v->Bw w w'->P (.returned (.tuple #[.agg #[.int .i64 m.n,.int .i64 m.a,tv,z],.bool true])) w'):=by
  refine Lh (λhr w' tv z j1 j2 j3=>?_);rw[hP,hEq,if_pos hr];exact⟨tv,z,rfl,j1,j2,j3⟩
 have ZG:Hid (r3=false->∀w',Bw w w'->P (.returned (.tuple #[.agg #[.int .i64 0,.int .i64 0,.slice none 0 0,.complex .f64 0 0],.bool false])) w'):=by
  refine Lh (λhr w' hB=>?_);rw[hP,hEq,if_neg (by rw[hr];decide)]
  exact⟨_,_,rfl,bA.nil _,gL,hB⟩
 have Yf:=Lh (bfy hx hy);obtain⟨fq,f2,f3,f4,f5⟩:=fM hx;obtain⟨_,g2,g3,g4,_⟩:=fM hy;have VR:Hid (lT q.k.toNat x.top=x.top/\(q.agg≠6->x.top=[])/\(q.agg≠6->y.top=[])):=Lh ⟨(qA hx).1,(qA hx).2.1,(qA hy).2.1⟩;have WR:Hid (m=x.merge q y/\r3=m.bB q):=Lh ⟨hm,hr3⟩;obtain⟨p1,s1,rfl,hp1,hs1_⟩:=k1.1;obtain⟨p2,s2,rfl,hp2,hs2_⟩:=k2.1;have hu1:=k1.2;have hu2:=k2.2;obtain⟨t1,t2,ft1,ft2,hadd⟩:=BF (P:=prog) (t:=51) hp1 hp2 hs1_ hs2_ (by unfold mr at hu1 hu2;omega) (by unfold mr at hu1 hu2;omega)
 have HZ1:=Lh (bfy k1 k2);have HZ3:Hid (lU (.complex .f64 t1 t2) (x.u+y.u) (x.v+y.v)/\((-1099511627776<=x.u+y.u/\x.u+y.u<=1099511627776)/\(-1099511627776<=x.v+y.v/\x.v+y.v<=1099511627776))):=Lh ⟨⟨t1,t2,rfl,ft1,ft2⟩,by unfold mr at hu1 hu2;omega⟩
 obtain⟨Z1,hZ1⟩:=Nm (Value.complex .f64 p1 s1);obtain⟨Z2,hZ2⟩:=Nm (Value.complex .f64 p2 s2);rw[<-hZ1,<-hZ2]at HZ1 ⊢;have HAdd:Hid (∀w,(binOp .add 51 Z1 Z2).run prog w=.ok (.complex .f64 t1 t2) w):=by
  rw[hZ1,hZ2];exact Lh (λw=>hadd w)
 have HT:=Lh (bfy h1 h2);clear hp1 hp2 hs1_ hs2_ hu1 hu2 ft1 ft2 hadd k1 k2 hZ1 hZ2 hm hr3 hEq hP hx hy;have hk0:0<=q.k/\q.k<=8:=f5;obtain⟨Q,hQ⟩:=Nm q;obtain⟨n1,a1,l1,u1,ow⟩:=x;obtain⟨n2,a2,l2,u2,oC⟩:=y;simp only at h1 h2 f2 f3 f4 g2 g3 g4 HT HZ1 HZ3 VR ⊢;obtain⟨w1,hw1⟩:=Nm ((((w.alloc (.cells q.cells 23)).alloc (.cells (bI n1 a1 Sk Z1) 53)).alloc (.cells (bI n2 a2 Sq Z2) 53)).alloc (.cells dE 53));obtain⟨qb,Sm⟩:=Nm (w.heap.size);obtain⟨b1,hb1⟩:=Nm (w.heap.size+1);obtain⟨b2,hb2⟩:=Nm (w.heap.size+2);obtain⟨b6,hb6⟩:=Nm (w.heap.size+3);have hs1:(w.alloc (.cells q.cells 23)).heap.size=w.heap.size+1:=bq w _;have hs2:((w.alloc (.cells q.cells 23)).alloc (.cells (bI n1 a1 Sk Z1) 53)).heap.size=w.heap.size+2:=by rw[bq,bq]
 have hs3:(((w.alloc (.cells q.cells 23)).alloc (.cells (bI n1 a1 Sk Z1) 53)).alloc (.cells (bI n2 a2 Sq Z2) 53)).heap.size=w.heap.size+3:=by rw[bq,bq,bq]
 have H1:Hid (Cg w qb b1 b2 b6 Q n1 a1 Sk Z1 n2 a2 Sq Z2 w1):=by
  have h:=wm w q n1 a1 Sk Z1 n2 a2 Sq Z2;have hB:=(Below.refl _ (((w.alloc (.cells q.cells 23)).alloc (.cells (bI n1 a1 Sk Z1) 53)).alloc (.cells (bI n2 a2 Sq Z2) 53))).alloc (bfx _) (.cells dE 53);rw[<-hw1]at hB;have hz:bW w1 b6 0 0 bS fU:=by rw[hw1,hb6,<-hs3];exact bg5 _ _
  rw[Sm,hb1,hb2,hQ];exact Lh ⟨by omega,h.1.below hB,h.2.1.below hB,h.2.2.1.below hB,hz,h.2.2.2.1.trans (hB.mono h.2.2.2.1.size)⟩
 have HBb:Hid (w.heap.size<=qb/\w1.heap.size=w.heap.size+4/\qb<w1.heap.size/\b1<w1.heap.size/\b2<w1.heap.size/\b6<w1.heap.size):=by
  have e:w1.heap.size=w.heap.size+4:=by rw[hw1,bq,hs3]
  exact Lh (by omega)
 clear h1 h2;have Ew:Hid (q.k=((q.k.toNat:Nat):Int)):=Lh (by omega)
 obtain⟨kind,size,slide,late,agg,kq⟩:=q;have Vj:Hid (Q=⟨kind,size,slide,late,agg,kq⟩/\∀w',dn w' qb Q->D6 w' qb kind size slide late agg kq):=by
  rw[hQ];exact Lh ⟨rfl,λw' h=>h.d6⟩
 simp only at VR Ew hk0;obtain⟨kn,hkn⟩:=Nm (kq.toNat);rw[<-hkn]at VR Ew;have OQ:kn<=8:=by omega
 clear hkn;unfold bz.cells at hw1 hs1 hs2 hs3 ⊢;unfold dE at hw1;unfold bI at hw1 hs2 hs3 ⊢;simp only[bS,fU]at hw1 hs1 hs2 hs3;clear hQ fq f5;have hnb:(0<=n1/\n1<=1073741824)/\(0<=n2/\n2<=1073741824):=⟨f2,g2⟩;obtain⟨d0,d1,d2,d3,d4,d5⟩:=Vj.out.2 w1 H1.out.2.1;obtain⟨e0,e1,e2,e3⟩:=H1.out.2.2.1.d4;obtain⟨y0,y1,y2,y3⟩:=H1.out.2.2.2.1.d4;go_enter func81,ntmps81;go_upto_region 1 with(fail);rw[<-hw1,<-hb6,<-hb2,<-hb1,<-Sm];clear hw1 hb6 hb2 hb1 Sm hs1 hs2 hs3;by_cases c1:n1=0
 ·have eO:m=⟨n2,a2,l2,u2,oC⟩:=by
   rw[WR.out.1,dS.merge,if_pos c1]
  have HZ0:Hid (∀w',bA w' Sq l2->Bw w w'->P (.returned (.tuple #[.agg #[.int .i64 n2,.int .i64 a2,Sq,Z2],.bool true])) w'):=by
   have h:=Va.out (by rw[WR.out.2,eO];exact Yf.out.2)
   rw[eO]at h;exact Lh (λw' j1 j2=>h w' Sq Z2 j1 HZ1.out.2 j2)
  have c1e:(n1==0)=true:=by simpa using c1
  clear c1 eO;go_upto_region 2 with(fail);refine bg4 ?_
  iterate 3 go_step
  refine bg6 rfl _ _ _ rfl b6 (bI (n2) (a2) (Sq) (Z2)) rfl rfl 53 dE H1.out.2.2.2.2.1 bV rfl (gm (HT.out.2.below H1.out.2.2.2.2.2) HZ1.out.2) ?_;obtain⟨wy,Sy⟩:=Nm (w1.setRow b6 (bI (n2) (a2) (Sq) (Z2)));have HZ:Hid (bW wy b6 (n2) (a2) (Sq) (Z2)/\P (.returned (.tuple #[.agg #[.int .i64 (n2),.int .i64 (a2),Sq,Z2],.bool true])) wy):=by
   have hg:=bC w1 b6 (bI (n2) (a2) (Sq) (Z2));rw[Sy];obtain⟨j0,j1,j2,j3,j4,j5⟩:=H1.out;exact Lh ⟨j4.reset _ _ _ _,HZ0.out _ ((HT.out.2.below j5).grown hg (λ_ _ _ e hne=>(HT.out.2.below j5).apart e hne j4 (by decide))) (j5.trans (bG hg j0 j5.size))⟩
  rw[<-Sy];clear Sy d0 d1 d2 d3 d4 d5 e0 e1 e2 e3 y0 y1 y2 y3;go_wp2_with(fail);exact bodyPost_ret (v:=.tuple #[.agg (bI (n2) (a2) (Sq) (Z2)),.bool true]) ((bK (p:=6) (u:=7) (ty:=53) rfl _ _ b6 53 (bI (n2) (a2) (Sq) (Z2)) (0,0) _ rfl HZ.out.1 underlying53 rfl bV).trans rfl) rfl HZ.out.2
 by_cases c2:n2=0
 ·have eO:m=⟨n1,a1,l1,u1,ow⟩:=by
   rw[WR.out.1,dS.merge,if_neg c1,if_pos c2]
  have HZ0:Hid (∀w',bA w' Sk l1->Bw w w'->P (.returned (.tuple #[.agg #[.int .i64 n1,.int .i64 a1,Sk,Z1],.bool true])) w'):=by
   have h:=Va.out (by rw[WR.out.2,eO];exact Yf.out.1)
   rw[eO]at h;exact Lh (λw' j1 j2=>h w' Sk Z1 j1 HZ1.out.1 j2)
  have c1e:(n1==0)=false:=by simpa using c1
  have c2e:(n2==0)=true:=by simpa using c2
  clear c1 c2 eO;go_upto_region 4 with(fail);refine bg4 ?_
  iterate 3 go_step
  refine bg6 rfl _ _ _ rfl b6 (bI (n1) (a1) (Sk) (Z1)) rfl rfl 53 dE H1.out.2.2.2.2.1 bV rfl (gm (HT.out.1.below H1.out.2.2.2.2.2) HZ1.out.1) ?_;obtain⟨wy,Sy⟩:=Nm (w1.setRow b6 (bI (n1) (a1) (Sk) (Z1)));have HZ:Hid (bW wy b6 (n1) (a1) (Sk) (Z1)/\P (.returned (.tuple #[.agg #[.int .i64 (n1),.int .i64 (a1),Sk,Z1],.bool true])) wy):=by
   have hg:=bC w1 b6 (bI (n1) (a1) (Sk) (Z1));rw[Sy];obtain⟨j0,j1,j2,j3,j4,j5⟩:=H1.out;exact Lh ⟨j4.reset _ _ _ _,HZ0.out _ ((HT.out.1.below j5).grown hg (λ_ _ _ e hne=>(HT.out.1.below j5).apart e hne j4 (by decide))) (j5.trans (bG hg j0 j5.size))⟩
  rw[<-Sy];clear Sy d0 d1 d2 d3 d4 d5 e0 e1 e2 e3 y0 y1 y2 y3;go_wp2_with(fail);exact bodyPost_ret (v:=.tuple #[.agg (bI (n1) (a1) (Sk) (Z1)),.bool true]) ((bK (p:=6) (u:=7) (ty:=53) rfl _ _ b6 53 (bI (n1) (a1) (Sk) (Z1)) (0,0) _ rfl HZ.out.1 underlying53 rfl bV).trans rfl) rfl HZ.out.2
 have VH:Hid (m=⟨n1+n2,if agg=3 then min a1 a2 else if agg=4 then max a1 a2 else a1+a2,if agg=6 then lT kq.toNat (l1++l2)else l1,u1+u2,ow+oC⟩):=Lh (by rw[WR.out.1,dS.merge,if_neg c1,if_neg c2])
 have c1e:(n1==0)=false:=by simpa using c1
 have c2e:(n2==0)=false:=by simpa using c2
 clear c1 c2;have HW1:Hid (IntKind.i64.wrap (n1+n2)=n1+n2/\IntKind.i64.wrap (a1+a2)=a1+a2):=Lh ⟨IntWalk.i64_in _ (by omega),IntWalk.i64_in _ (by omega)⟩
 have YZ:Hid (∀w',Bw w1 w'->D4 w' b1 n1 a1 Sk Z1/\D4 w' b2 n2 a2 Sq Z2/\bA w' Sk l1):=by
  refine Lh (λw' h=>?_);obtain⟨j0,j1,j2,j3,j4,j5⟩:=H1.out.below h;exact⟨j2.d4,j3.d4,HT.out.1.below j5⟩
 have WN:Hid (Bw w1 w1.drew):=(Below.refl _ w1).drew;go_upto_region 5 with(fail);clear d0 d1 d2 d3 d4 d5 e0 e1 e2 e3 y0 y1 y2 y3;refine dZ (λi=>([]:List Nat).contains i) (by kernel_rfl) (NoF (NoF (NoF (NoF [some 0,some 1])))) [20,21] (DT ((Value.pointer (some ⟨b1,0,none⟩))::(Value.int .i64 n1)::(Value.pointer (some ⟨b2,0,none⟩))::(Value.int .i64 n2)::(Value.int .i64 (n1+n2))::(Value.pointer (some ⟨b1,1,none⟩))::(Value.int .i64 a1)::(Value.pointer (some ⟨b2,1,none⟩))::(Value.int .i64 a2)::(Value.int .i64 (a1+a2))::(Value.pointer (some ⟨b1,3,none⟩))::Z1::(Value.pointer (some ⟨b2,3,none⟩))::Z2::(Value.complex .f64 t1 t2)::undef::(Value.pointer (some ⟨b1,2,none⟩))::Sk::([undef,undef,undef,undef]:List Value)) (QH w1.heap.size (n1+n2) (a1+a2) (.complex .f64 t1 t2) l1)) (λ_ w'=>Bw w1 w') (λw w'=>Bw w w') (lX _ _ QI) (by kernel_rfl) (by kernel_rfl) (by kernel_rfl) WN.out (λ_=>⟨rfl,rfl,rfl,rfl,rfl,rfl,rfl,rfl,rfl,rfl,rfl,rfl,rfl,rfl,rfl,rfl,rfl,rfl,rfl,rfl,rfl,rfl,trivial⟩) (λ_ h=>by simp at h) ?_ ?_
 ·refine ⟨?_,?_,?_,?_,?_,?_,?_,?_,?_,?_,?_,?_,?_,?_,?_,?_,?_,?_,?_,?_,?_,?_,trivial⟩<;>(first|(intro _ _ a w' hG Si Sj K hK;guard_hyp w':World)|intro _ a w' hG Si Sj K hK)<;>replace Si:=Lh Si<;>replace Sj:=Lh Sj
  have q4:=FaA Si 4 b1 0;rotate_left;have VV:=Pa a 19 b1 0 Sj.out.1;obtain⟨⟨e0,e1,e2,e3⟩,⟨y0,y1,y2,y3⟩,_⟩:=YZ.out w' hG;rotate_left;have q5:=FaA Si 5 b2 0;rotate_left;have VZ:=Pa a 21 b2 0 Sj.out.1;obtain⟨⟨e0,e1,e2,e3⟩,⟨y0,y1,y2,y3⟩,_⟩:=YZ.out w' hG;rotate_left;have Wy:=Pi a 20 n1 Sj.out.1;have q22:=Pi a 22 n2 Sj.out.2.1;have hwr:=HW1.out.1;rotate_left;have q4:=FaA Si 4 b1 0;rotate_left;have q24:=Pa a 24 b1 1 Sj.out.1;obtain⟨⟨e0,e1,e2,e3⟩,⟨y0,y1,y2,y3⟩,_⟩:=YZ.out w' hG;rotate_left;have q5:=FaA Si 5 b2 0;rotate_left;have V5:=Pa a 26 b2 1 Sj.out.1;obtain⟨⟨e0,e1,e2,e3⟩,⟨y0,y1,y2,y3⟩,_⟩:=YZ.out w' hG;rotate_left;have V3:=Pi a 25 a1 Sj.out.1;have Xe:=Pi a 27 a2 Sj.out.2.1;have hwr:=HW1.out.2;rotate_left;have q4:=FaA Si 4 b1 0;rotate_left;have YC:=Pa a 29 b1 3 Sj.out.1;obtain⟨⟨e0,e1,e2,e3⟩,⟨y0,y1,y2,y3⟩,_⟩:=YZ.out w' hG;rotate_left;have q5:=FaA Si 5 b2 0;rotate_left;have EW:=Pa a 31 b2 3 Sj.out.1;obtain⟨⟨e0,e1,e2,e3⟩,⟨y0,y1,y2,y3⟩,_⟩:=YZ.out w' hG;rotate_left;have ZY:=Ep a 30 Z1 Sj.out.1;have q32:=Ep a 32 Z2 Sj.out.2.1;have hop:=HAdd.out;rotate_left
  ·go_step;exact hK _ _ ⟨_,rfl⟩ (hG.trans (((Below.refl _ w').alloc (bfx _) _).mono hG.size)) ((Below.refl _ w').alloc (bfx _) _)
  have q4:=FaA Si 4 b1 0;rotate_left;have Xw:=Pa a 35 b1 2 Sj.out.1;obtain⟨⟨e0,e1,e2,e3⟩,⟨y0,y1,y2,y3⟩,_⟩:=YZ.out w' hG;rotate_left
  ·obtain ⟨p0,p1,_⟩:=Sj.out;obtain⟨g_,hv⟩:=(show ∃g,a.eval (.tmp 34)=.slice (some ⟨g,0,none⟩) 0 0 from p0);have O8:=(show a.eval (.tmp 36)=Sk from p1);refine zn (.tmp 34) (.tmp 36) rfl g_ hv Sk O8 l1 (YZ.out w' hG).2.2 (by omega) ?_
   intro v' w3 hI hB;exact hK _ _ hI (Tb hG hB) hB
  ·obtain ⟨_,_,_,p3,_⟩:=Sj.out;have Wi:=Ep a 23 (.int .i64 (n1+n2)) Sj.out.1;have XW:=Ep a 28 (.int .i64 (a1+a2)) Sj.out.2.1;have Zx:=Ep a 33 (.complex .f64 t1 t2) Sj.out.2.2.1;obtain hI:=(show bA w' (a.eval (.tmp 37)) l1 from p3);obtain⟨ta,tc,hta,hrest⟩:=hI;have YD:=bf hta;go_step;exact hK _ _ ⟨_,rfl,⟨ta,tc,rfl,hrest⟩⟩ hG Br
  ·go_step;exact hK _ _ ⟨w'.heap.size,rfl,hG.size,by rw[if_pos (by decide)];exact bg5 w' _⟩ (hG.trans (((Below.refl _ w').alloc (bfx _) _).mono hG.size)) (gN _ (Lf ((Below.refl _ w').alloc (bfx _) _)))
  ·obtain⟨p0,p1,_⟩:=Sj.out;obtain⟨b,hv,WW,hrow⟩:=(show ∃b,a.eval (.tmp 8)=.pointer (some ⟨b,0,none⟩)/\w1.heap.size<=b/\if 1<=1 then bW w' b 0 0 bS fU else ∃tv,bW w' b (n1+n2) (a1+a2) tv (.complex .f64 t1 t2)/\bA w' tv l1 from p0)
   obtain⟨tv,hv2,hI⟩:=(show ∃tv,a.eval (.tmp 38)=.agg #[.int .i64 (n1+n2),.int .i64 (a1+a2),tv,.complex .f64 t1 t2]/\bA w' tv l1 from p1);rw[if_pos (by decide)]at hrow
   refine wp_store_row _ (.tmp 8) (.tmp 38) rfl b (bI (n1+n2) (a1+a2) tv (.complex .f64 t1 t2)) hv hv2 _ _ hrow bV rfl (kN hI.one rfl) ?_;have hg:w'.grownBy (w'.setRow b (bI (n1+n2) (a1+a2) tv (.complex .f64 t1 t2))) (some b):=bC _ _ _;exact hK _ _ rfl (hG.trans ⟨hg.os,hg.tape,hg.output,hg.size,λk hk=>hg.block k (by have:=hG.size;omega) (by simp;omega)⟩) (gN _ (Nl rfl hv hrow WW hg (hrow.reset _ _ _ _) hI))
  all_goals(go_step;exact hK _ _ rfl hG Br)
 intro vs w2 hG hlen hV
 match vs,hlen,hV with
 | [v0,v1,v2,v3,v4,v5,v6,v7,v8,v9,v10,v11,v12,v13,v14,v15,v16,v17,v18,v19,v20,v21],_,hV=>
  obtain⟨b8,hvb,uV,hrow⟩:=(show ∃b,v20=.pointer (some ⟨b,0,none⟩)/\w1.heap.size<=b/\if 2<=1 then bW w2 b 0 0 bS fU else ∃tv,bW w2 b (n1+n2) (a1+a2) tv (.complex .f64 t1 t2)/\bA w2 tv l1 from hV 20 8 v20 rfl rfl)
  rw[if_neg (by decide)]at hrow
  obtain⟨tv,hrow,hI⟩:=hrow;subst hvb;clear hV;have H2:Hid (jO w qb b1 b2 b6 b8 Q n1 a1 Sk Z1 n2 a2 Sq Z2 (n1+n2) (a1+a2) tv (.complex .f64 t1 t2) w2/\bA w2 tv l1/\bA w2 Sq l2):=by
   obtain⟨j0,j1,j2,j3,j4,j5⟩:=H1.out.below hG;have hb:=HBb.out;exact Lh ⟨⟨by omega,j1,j2,j3,j4,hrow,j5⟩,hI,HT.out.2.below j5⟩
  clear hrow hI hG uV;simp only[dG,bf7,bf1];simp only[Act.put,bfw,bfu,bfv];clear H1 YZ WN HAdd HW1;obtain⟨A1,hA1⟩:=Nm (if agg=3 then min a1 a2 else a1+a2:Int)
  obtain⟨A2,hA2⟩:=Nm (if agg=4 then max a1 a2 else A1:Int)
  have HA:Hid (A1=(if agg=3 then min a1 a2 else a1+a2)/\A2=(if agg=4 then max a1 a2 else A1)):=Lh ⟨hA1,hA2⟩
  clear hA1 hA2;obtain⟨d0,d1,d2,d3,d4,d5⟩:=Vj.out.2 w2 H2.out.1.2.1;obtain⟨e0,e1,e2,e3⟩:=H2.out.1.2.2.1.d4;obtain⟨y0,y1,y2,y3⟩:=H2.out.1.2.2.2.1.d4;obtain⟨x0,x1,x2,x3⟩:=H2.out.1.2.2.2.2.2.1.d4;obtain⟨b3,hb3⟩:∃b,(agg==3)=b:=⟨_,rfl⟩;go_upto_if 41 with(fail);have HB3:=Lh hb3;clear hb3;go_cut[]from 42 to 47 (λwx=>jO w qb b1 b2 b6 b8 Q n1 a1 Sk Z1 n2 a2 Sq Z2 (n1+n2) A1 tv (.complex .f64 t1 t2) wx/\bA wx tv l1/\bA wx Sq l2)
  case first=>
   cases b3 with
   | true=>
    have a3:agg=3:=by have h:=HB3.out;simpa using h
    have HQ:Hid (min a1 a2=A1/\(if a2<a1 then a2 else a1)=A1):=by
     have e:min a1 a2=A1:=(HA.out.1.trans (if_pos a3)).symm;refine Lh ⟨e,?_⟩;rw[<-e]
     split <;> omega
    clear a3;go_upto_region 7 with(fail);refine bg4 ?_
    iterate 18 go_step
    first | rw[HQ.out.1] | rw[HQ.out.2]
    refine bU rfl _ (.tmp 47) (.tmp 46) rfl ⟨b8,1,none⟩ (.int .i64 A1) (.int .i64 (a1+a2)) rfl rfl rfl rfl sizeOf3 x1 (bW.qi H2.out.1.2.2.2.2.2.1 1) ?_;have HC:Hid (jO w qb b1 b2 b6 b8 Q n1 a1 Sk Z1 n2 a2 Sq Z2 (n1+n2) A1 tv (.complex .f64 t1 t2) (w2.setCell ⟨b8,1,none⟩ (.int .i64 A1))/\bA (w2.setCell ⟨b8,1,none⟩ (.int .i64 A1)) tv l1/\bA (w2.setCell ⟨b8,1,none⟩ (.int .i64 A1)) Sq l2):=by
     have hg:w2.grownBy (w2.setCell ⟨b8,1,none⟩ (.int .i64 A1)) (some b8):=bL _ _ _ _;exact Lh ⟨H2.out.1.turn hg (bW.set1 H2.out.1.2.2.2.2.2.1 A1),H2.out.1.apart H2.out.2.1 hg,H2.out.1.apart H2.out.2.2 hg⟩
    go_wp2_with(fail);go_meet;exact HC.out
   | false=>
    have a3:¬agg=3:=by have h:=HB3.out;simpa using h
    have HQ:Hid (A1=a1+a2):=Lh (HA.out.1.trans (if_neg a3));clear a3;go_wp2_with(fail);go_meet;rw[HQ.out];exact H2.out
  case rest=>
   have H3:=Lh hcut;clear hcut d0 d1 d2 d3 d4 d5 e0 e1 e2 e3 y0 y1 y2 y3 x0 x1 x2 x3 H2;obtain⟨w3,hw3⟩:=Nm wc;rw[<-hw3]at H3 ⊢;clear hw3;obtain⟨d0,d1,d2,d3,d4,d5⟩:=Vj.out.2 w3 H3.out.1.2.1;obtain⟨e0,e1,e2,e3⟩:=H3.out.1.2.2.1.d4;obtain⟨y0,y1,y2,y3⟩:=H3.out.1.2.2.2.1.d4;obtain⟨x0,x1,x2,x3⟩:=H3.out.1.2.2.2.2.2.1.d4;obtain⟨b4,hb4⟩:∃b,(agg==4)=b:=⟨_,rfl⟩;go_upto_if 50 with(fail);have X3:=Lh hb4;clear hb4;go_cut[]from 51 to 56 (λwx=>jO w qb b1 b2 b6 b8 Q n1 a1 Sk Z1 n2 a2 Sq Z2 (n1+n2) A2 tv (.complex .f64 t1 t2) wx/\bA wx tv l1/\bA wx Sq l2)
   case first=>
    cases b4 with
    | true=>
     have a4:agg=4:=by have h:=X3.out;simpa using h
     have HQ:Hid (max a1 a2=A2/\(if a1<a2 then a2 else a1)=A2):=by
      have e:max a1 a2=A2:=(HA.out.2.trans (if_pos a4)).symm;refine Lh ⟨e,?_⟩;rw[<-e]
      split <;> omega
     clear a4;go_upto_region 9 with(fail);refine bg4 ?_
     iterate 18 go_step
     first | rw[HQ.out.1] | rw[HQ.out.2]
     refine bU rfl _ (.tmp 56) (.tmp 55) rfl ⟨b8,1,none⟩ (.int .i64 A2) (.int .i64 A1) rfl rfl rfl rfl sizeOf3 x1 (bW.qi H3.out.1.2.2.2.2.2.1 1) ?_;have HC:Hid (jO w qb b1 b2 b6 b8 Q n1 a1 Sk Z1 n2 a2 Sq Z2 (n1+n2) A2 tv (.complex .f64 t1 t2) (w3.setCell ⟨b8,1,none⟩ (.int .i64 A2))/\bA (w3.setCell ⟨b8,1,none⟩ (.int .i64 A2)) tv l1/\bA (w3.setCell ⟨b8,1,none⟩ (.int .i64 A2)) Sq l2):=by
      have hg:w3.grownBy (w3.setCell ⟨b8,1,none⟩ (.int .i64 A2)) (some b8):=bL _ _ _ _;exact Lh ⟨H3.out.1.turn hg (bW.set1 H3.out.1.2.2.2.2.2.1 A2),H3.out.1.apart H3.out.2.1 hg,H3.out.1.apart H3.out.2.2 hg⟩
     go_wp2_with(fail);go_meet;exact HC.out
    | false=>
     have a4:¬agg=4:=by have h:=X3.out;simpa using h
     have HQ:Hid (A2=A1):=Lh (HA.out.2.trans (if_neg a4));clear a4;go_wp2_with(fail);go_meet;rw[HQ.out];exact H3.out
   case rest=>
    have H4:=Lh hcut;clear hcut d0 d1 d2 d3 d4 d5 e0 e1 e2 e3 y0 y1 y2 y3 x0 x1 x2 x3 H3;obtain⟨w4,hw4⟩:=Nm wc;rw[<-hw4]at H4 ⊢;clear hw4;obtain⟨Ie,oD,Au,Ar⟩:=H4.out.2.2;have HT2:=Lh Ar;obtain⟨L2,hL2⟩:=Nm (l2.length);have HL2:=Lh hL2;rw[<-hL2]at Au;have hL2b:L2<=8:=by omega
    clear Ar hL2;subst Au;obtain⟨y0,y1,y2,y3⟩:=H4.out.1.2.2.2.1.d4;go_wp2_with(fail);clear y0 y1 y2 y3;go_loopw[60] (Ri w qb b1 b2 b6 b8 Q n1 a1 Sk Z1 n2 a2 (.slice Ie L2 oD) Z2 (n1+n2) A2 (.complex .f64 t1 t2) kn l1 l2) (λv _=>L2-(intOf v).toNat)
    case atStart=>exact⟨0,tv,bgi _,rfl,H4.out.1,by rw[List.take_zero];exact H4.out.2.1,H4.out.2.2⟩
    case round=>
     obtain⟨j,Ih,hj,rfl,hS,hI,hI2⟩:=hrel;rw[<-HL2.out]at hj;have H5:=Lh (bfy hS (bfy hI hI2));clear hS hI hI2;obtain⟨w5,Xu⟩:=Nm wr;rw[<-Xu]at H5 ⊢;clear Xu;by_cases hlt:j<L2
     ·have hj0:(0:Int)<=(j:Int)/\(j:Int)<(L2:Int):=by omega
      obtain⟨v,pb,po,c',hv,hsa,c0⟩:=H5.out.2.2.get (t:=j) (by rw[<-HL2.out];exact hlt)
      obtain rfl:Ie=some ⟨pb,po,none⟩:=by injection hsa
      have HV:Hid (l2.take (j+1)=l2.take j++[v]/\j<L2):=Lh ⟨by rw[List.take_add_one,hv];rfl,hlt⟩
      clear hv hsa hj hlt;obtain⟨Xf,Xg,Yw,ig⟩:=H5.out.2.1;have ZU:=CW kn (l2.take j) l1 f4 OQ;have aB:=Lh ZU;obtain⟨Lj,uR⟩:=Nm ((rJ kn l1 (l2.take j)).length);rw[<-uR]at Yw ZU;clear ig uR;subst Yw;have oN:Hid (Calls prog 111 #[.slice Xf Lj Xg,.int .i64 v,.int .i64 kq] w5 (xJ w5 ((jD v (rJ kn l1 (l2.take j))).take kn))):=by
       rw[Ew.out];exact Lh (yS w5 _ _ v kn H5.out.2.1 (by have:=aB.out;omega))
      obtain⟨d0,d1,d2,d3,d4,d5⟩:=Vj.out.2 w5 H5.out.1.2.1;obtain⟨x0,x1,x2,x3⟩:=H5.out.1.2.2.2.2.2.1.d4;go_upto_region 13 with(fail);refine bg4 ?_
      iterate 15 go_step
      refine wpList_plain rfl λK hK=>?_;go_step;refine oN.out.mono ?_;rintro e w6 ⟨UC,rfl,hIn,hNf,hB⟩;refine hK _ _ ?_;obtain⟨ZB,ZC,XG,hrn⟩:=hIn;have H6:Hid (jO w qb b1 b2 b6 b8 Q n1 a1 Sk Z1 n2 a2 (.slice (some ⟨pb,po,none⟩) L2 oD) Z2 (n1+n2) A2 (.slice Xf Lj Xg) (.complex .f64 t1 t2) w6/\bA w6 UC ((jD v (rJ kn l1 (l2.take j))).take kn)/\bA w6 (.slice (some ⟨pb,po,none⟩) L2 oD) l2):=Lh ⟨H5.out.1.below hB,⟨ZB,ZC,XG,hrn⟩,H5.out.2.2.below hB⟩;clear hK hB hNf hrn oN H5 d0 d1 d2 d3 d4 d5 x0 x1 x2 x3 c0;obtain⟨Ln,hLn⟩:=Nm (((jD v (rJ kn l1 (l2.take j))).take kn).length);rw[<-hLn]at XG;clear hLn;subst XG;obtain⟨x0,x1,x2,x3⟩:=H6.out.1.2.2.2.2.2.1.d4
      iterate 3 go_step
      refine bU rfl _ (.tmp 70) (.tmp 69) rfl ⟨b8,2,none⟩ (.slice ZB Ln ZC) (.slice Xf Lj Xg) rfl rfl rfl rfl sizeOf48 x2 (bW.qi H6.out.1.2.2.2.2.2.1 2) ?_;have HC:Hid (Ri w qb b1 b2 b6 b8 Q n1 a1 Sk Z1 n2 a2 (.slice (some ⟨pb,po,none⟩) L2 oD) Z2 (n1+n2) A2 (.complex .f64 t1 t2) kn l1 l2 (.int .i64 ((j:Int)+1)) (w6.setCell ⟨b8,2,none⟩ (.slice ZB Ln ZC))):=by
       have hg:w6.grownBy (w6.setCell ⟨b8,2,none⟩ (.slice ZB Ln ZC)) (some b8):=bL _ _ _ _;exact Lh ⟨j+1,_,by have:=HV.out.2;have:=HL2.out;omega,by go_num,H6.out.1.turn hg (bW.set2 H6.out.1.2.2.2.2.2.1 _),by rw[HV.out.1,JF];exact H6.out.1.apart H6.out.2.1 hg,H6.out.1.apart H6.out.2.2 hg⟩
      have SX:=Lh HV.out.2;clear x0 x1 x2 x3;go_wp2_with(fail);go_roundw
      case rel=>exact HC.out
      case measure=>have:=SX.out;simp[intOf];omega
     obtain rfl:j=L2:=by omega
     have ZP:rJ kn l1 (l2.take j)=m.top:=by
      rw[HL2.out,bgs,VH.out];by_cases a6:agg=6
      ·rw[if_pos a6,<-VR.out.1,CX,VR.out.1,show kq.toNat=kn from by have:=Ew.out;omega]
      rw[if_neg a6,VR.out.2.2 a6];rfl
     have hma:A2=m.a:=by
      rw[VH.out,HA.out.2,HA.out.1];by_cases a3:agg=3
      ·rw[if_pos a3,if_pos a3,if_neg (by omega)]
      rw[if_neg a3,if_neg a3]
     have H6:Hid (jO w qb b1 b2 b6 b8 Q n1 a1 Sk Z1 n2 a2 (.slice Ie j oD) Z2 (n1+n2) A2 Ih (.complex .f64 t1 t2) w5/\bA w5 Ih m.top/\m=⟨n1+n2,A2,m.top,u1+u2,ow+oC⟩):=by
      have h:=H5.out.2.1;rw[ZP]at h;refine Lh ⟨H5.out.1,h,?_⟩;have e:=VH.out;have et:=congrArg dS.top e;have ea:=congrArg dS.a e;simp only at et ea;rw[hma,ea,et];exact e
     clear ZP hma H5 hj hlt;have Xi:Hid (Calls prog 72 #[.agg #[.int .i64 kind,.int .i64 size,.int .i64 slide,.int .i64 late,.int .i64 agg,.int .i64 kq],.agg #[.int .i64 (n1+n2),.int .i64 A2,Ih,.complex .f64 t1 t2]] w5 (bE w5 (.bool r3))):=by
      have hlm:m.top.length<=1000000:=by
       rw[VH.out];show(if agg=6 then lT kq.toNat (l1++l2)else l1).length<=1000000
       split
       ·rw[BU];omega
       omega
      have hr:r3=dS.bB ⟨kind,size,slide,late,agg,kq⟩ ⟨n1+n2,A2,m.top,u1+u2,ow+oC⟩:=WR.out.2.trans (congrArg (dS.bB ⟨kind,size,slide,late,agg,kq⟩) H6.out.2.2);rw[hr];exact Lh (vO w5 ⟨kind,size,slide,late,agg,kq⟩ ⟨n1+n2,A2,m.top,u1+u2,ow+oC⟩ Ih (.complex .f64 t1 t2) H6.out.2.1 HZ3.out.1 HZ3.out.2 hlm)
     obtain⟨Xf,Xg,Yw,ig⟩:=H6.out.2.1;obtain⟨Lj,uR⟩:=Nm (m.top.length);rw[<-uR]at Yw;clear ig uR;subst Yw;obtain⟨d0,d1,d2,d3,d4,d5⟩:=Vj.out.2 w5 H6.out.1.2.1;obtain⟨x0,x1,x2,x3⟩:=H6.out.1.2.2.2.2.2.1.d4;go_wp2_with(fail);refine Xi.out.mono ?_;rintro e w6 ⟨rfl,hB⟩;have H7:Hid (jO w qb b1 b2 b6 b8 Q n1 a1 Sk Z1 n2 a2 (.slice Ie j oD) Z2 (n1+n2) A2 (.slice Xf Lj Xg) (.complex .f64 t1 t2) w6/\bA w6 (.slice Xf Lj Xg) m.top):=Lh ⟨H6.out.1.below hB,H6.out.2.1.below hB⟩;have XJ:=Lh H6.out.2.2;clear hB Xi H6 d0 d1 d2 d3 d4 d5 x0 x1 x2 x3;dsimp only
     cases r3 with
     | false=>
      go_upto_region 16 with(fail);refine bg4 ?_
      iterate 3 go_step
      refine bg6 rfl _ _ _ rfl b6 (bI (0) (0) (.slice none 0 0) (.complex .f64 0 0)) rfl rfl 53 dE H7.out.1.2.2.2.2.1 bV rfl (kN rfl rfl) ?_;obtain⟨wy,Sy⟩:=Nm (w6.setRow b6 (bI (0) (0) (.slice none 0 0) (.complex .f64 0 0)));have HZ:Hid (bW wy b6 (0) (0) (.slice none 0 0) (.complex .f64 0 0)/\P (.returned (.tuple #[.agg #[.int .i64 (0),.int .i64 (0),.slice none 0 0,.complex .f64 0 0],.bool false])) wy):=by
       have hg:=bC w6 b6 (bI (0) (0) (.slice none 0 0) (.complex .f64 0 0));rw[Sy];obtain⟨j0,j1,j2,j3,j4,j5,j6⟩:=H7.out.1;exact Lh ⟨j4.reset _ _ _ _,ZG.out rfl _ (j6.trans (bG hg j0.2.2.2.2.2.1 j6.size))⟩
      rw[<-Sy];clear Sy;go_wp2_with(fail);exact bodyPost_ret (v:=.tuple #[.agg (bI (0) (0) (.slice none 0 0) (.complex .f64 0 0)),.bool false]) ((bK (p:=6) (u:=7) (ty:=53) rfl _ _ b6 53 (bI (0) (0) (.slice none 0 0) (.complex .f64 0 0)) (0,0) _ rfl HZ.out.1 underlying53 rfl bV).trans rfl) rfl HZ.out.2
     | true=>
      obtain⟨x0,x1,x2,x3⟩:=H7.out.1.2.2.2.2.2.1.d4;have uB:Hid (dw (.complex .f64 t1 t2) (u1+u2) (ow+oC)):=by
       refine Lh ⟨HZ3.out.1,?_⟩;have h:=(nO _ m).1 WR.out.2.symm;rw[XJ.out]at h;exact h.2.2.1
      go_upto_region 17 with(fail);refine bg4 ?_
      iterate 3 go_step
      refine bg6 rfl _ _ _ rfl b6 (bI (n1+n2) (A2) (.slice Xf Lj Xg) (.complex .f64 t1 t2)) rfl rfl 53 dE H7.out.1.2.2.2.2.1 bV rfl (gm H7.out.2 uB.out) ?_;obtain⟨wy,Sy⟩:=Nm (w6.setRow b6 (bI (n1+n2) (A2) (.slice Xf Lj Xg) (.complex .f64 t1 t2)));have HZ:Hid (bW wy b6 (n1+n2) (A2) (.slice Xf Lj Xg) (.complex .f64 t1 t2)/\P (.returned (.tuple #[.agg #[.int .i64 (n1+n2),.int .i64 (A2),.slice Xf Lj Xg,.complex .f64 t1 t2],.bool true])) wy):=by
       have hg:=bC w6 b6 (bI (n1+n2) (A2) (.slice Xf Lj Xg) (.complex .f64 t1 t2));rw[Sy];obtain⟨j0,j1,j2,j3,j4,j5,j6⟩:=H7.out.1;have h:=Va.out rfl (w6.setRow b6 (bI (n1+n2) A2 (.slice Xf Lj Xg) (.complex .f64 t1 t2))) (.slice Xf Lj Xg) (.complex .f64 t1 t2) (H7.out.2.grown hg (λ_ _ _ e hne=>H7.out.2.apart e hne j4 (by decide))) (by rw[XJ.out];exact uB.out) (j6.trans (bG hg j0.2.2.2.2.2.1 j6.size))
       have en:m.n=n1+n2:=by rw[XJ.out]
       have ea:m.a=A2:=by rw[XJ.out]
       rw[en,ea]at h;exact Lh ⟨j4.reset _ _ _ _,h⟩
      rw[<-Sy];clear Sy x0 x1 x2 x3;go_wp2_with(fail);exact bodyPost_ret (v:=.tuple #[.agg (bI (n1+n2) (A2) (.slice Xf Lj Xg) (.complex .f64 t1 t2)),.bool true]) ((bK (p:=6) (u:=7) (ty:=53) rfl _ _ b6 53 (bI (n1+n2) (A2) (.slice Xf Lj Xg) (.complex .f64 t1 t2)) (0,0) _ rfl HZ.out.1 underlying53 rfl bV).trans rfl) rfl HZ.out.2
def vB(w:World)(qb b4 b6:Nat)(Q:bz)(n a:Int)(tv z:Value)(w':World):Prop:=
 (w.heap.size<=b4/\b4<b6/\qb<b6/\w.heap.size<=b6)/\dn w' qb Q/\bW w' b4 0 0 bS fU/\bW w' b6 n a tv z/\Bw w w'
theorem vB.below {w:World} {qb b4 b6:Nat} {Q:bz} {n a:Int} {tv z:Value} {w' w'':World}(h:vB w qb b4 b6 Q n a tv z w')(hB:Bw w' w''):vB w qb b4 b6 Q n a tv z w'':=by
 obtain⟨h0,h1,h2,h3,h4⟩:=h;exact⟨h0,h1.below hB,h2.below hB,h3.below hB,Tb h4 hB⟩
theorem vB.turn {w:World} {qb b4 b6:Nat} {Q:bz} {n a:Int} {tv z:Value} {w' w'':World} {n' a':Int} {tv' z':Value}(h:vB w qb b4 b6 Q n a tv z w')(hg:w'.grownBy w'' (some b6))(hr:bW w'' b6 n' a' tv' z'):vB w qb b4 b6 Q n' a' tv' z' w'':=by
 obtain⟨h0,h1,h2,h3,h4⟩:=h;exact⟨h0,(hg.block qb h1.lt (by simp;omega)).trans h1,h2.grown hg (by simp;omega),hr,h4.trans (bG hg (by omega) h4.size)⟩
theorem vB.apart {w:World} {qb b4 b6:Nat} {Q:bz} {n a:Int} {tv z:Value} {w' w'':World}(h:vB w qb b4 b6 Q n a tv z w') {t:Value} {l:List Int}(hI:bA w' t l)(hg:w'.grownBy w'' (some b6)):bA w'' t l:=
 hI.grown hg (λ_ _ _ e hne=>hI.apart e hne h.2.2.2.1 (by decide))
theorem bW.set0 {w:World} {b:Nat} {n a:Int} {tv z:Value}(h:bW w b n a tv z)(x:Int):bW (w.setCell ⟨b,0,none⟩ (.int .i64 x)) b x a tv z:=by
 unfold bW at*;rw[setCell_eq_setRow w b 0 _ _ (0,0) _ h];exact setRow_heap w b _ _ _ _ h
def vW(w:World)(qb b4 b6:Nat)(Q:bz)(m:dS)(w':World):Prop:=∃tv z,vB w qb b4 b6 Q 1 m.a tv z w'/\bA w' tv m.top/\dw z m.u m.v
def Np(w:World)(qb b4 b6:Nat)(Q:bz)(v:Int)(lv:Value)(m:dS)(s:Value)(wr:World):Prop:=
 (s=.int .i64 0/\vB w qb b4 b6 Q 0 0 bS fU wr/\bA wr lv [v])∨(s=.int .i64 1/\vW w qb b4 b6 Q m wr)
theorem NZ(v:Int):jD v []=[v]:=rfl
theorem Ke(w:World)(q:bz)(v:Int)(lv:Value)(hI:bA w lv [v])(hq:q.bB=true)(hv: -1099511627776<=v/\v<=1099511627776)
  (hr:(kv q.agg v).bB q=true):Calls prog 79 #[.agg q.cells,lv] w (qH w (kv q.agg v) true):=by
 obtain⟨P,hP⟩:=Nm (qH w (kv q.agg v) true);rw[<-hP];obtain⟨m,hm⟩:=Nm (kv q.agg v);rw[<-hm]at hP hr;have hn1:m.n=1:=by rw[hm];rfl
 have TI:Hid (∀w' tv z,bA w' tv m.top->dw z m.u m.v->Bw w w'->P (.returned (.tuple #[.agg #[.int .i64 1,.int .i64 m.a,tv,z],.bool true])) w'):=by
  refine Lh (λw' tv z j1 j2 j3=>?_);rw[hP];exact⟨tv,z,by rw[hn1];rfl,j1,j2,j3⟩
 have oZ:Hid (mr m.u m.v/\m.top.length<=1000000):=by
  have h:=(nO q m).1 hr;refine Lh ⟨h.2.2.1,?_⟩;have h7:=h.2.2.2.2.2.2.1;rw[hn1]at h7
  split at h7 <;> omega
 have TK:Hid (∀w' tv z,bA w' tv m.top->dw z m.u m.v->Calls prog 72 #[.agg q.cells,.agg (bI 1 m.a tv z)] w' (bE w' (.bool true))):=by
  refine Lh (λw' tv z j1 j2=>?_);have h:=vO w' q m tv z j1 j2.1 (by have:=oZ.out.1;unfold mr at this;omega) oZ.out.2
  rw[hn1,hr]at h;exact h
 have HM:Hid (m=kv q.agg v):=Lh hm;have HK:Hid (q.agg=6->∃kn:Nat,q.k=(kn:Int)/\1<=kn/\kn<=8):=by
  refine Lh (λh6=>?_);obtain⟨_,_,_,_,_,_,hk,hk0⟩:=gU hq
  first
  | exact⟨q.k.toNat,by omega,by omega,by omega⟩
  | (rw[if_pos h6]at hk;exact⟨q.k.toNat,by omega,by omega,by omega⟩)
  | (have:=hk h6;exact⟨q.k.toNat,by omega,by omega,by omega⟩)
 obtain⟨w1,hw1⟩:=Nm ((w.alloc (.cells q.cells 23)).alloc (.cells dE 53));obtain⟨qb,Sm⟩:=Nm (w.heap.size);obtain⟨b4,hb4⟩:=Nm (w.heap.size+1);have H1:Hid (dn w1 qb q/\bW w1 b4 0 0 bS fU/\Bw w w1/\w.heap.size<=b4):=by
  have h:=qK w q 0 0 bS fU;rw[hw1,Sm,hb4];exact Lh ⟨h.1,h.2.1,h.2.2,by omega⟩
 have hs1:(w.alloc (.cells q.cells 23)).heap.size=w.heap.size+1:=bq w _;have HI:=Lh hI;obtain⟨a,c,rfl,_,_⟩:=hI;obtain⟨Q,hQ⟩:=Nm q;rw[<-hQ]at H1;obtain⟨kind,size,slide,late,agg,k⟩:=q;have SV:Hid (∀w',dn w' qb Q->D6 w' qb kind size slide late agg k):=by rw[hQ];exact Lh (λw' h=>h.d6)
 unfold bz.cells at hw1 hs1 TK ⊢;unfold dE bI at hw1;unfold bI at TK;simp only[bS,fU]at hw1;simp only at HM HK;clear hP hm hr hn1 hq hQ;go_enter func79,ntmps79;go_upto_region 1 with(fail);rw[<-hw1,<-hb4,<-Sm];clear hw1 Sm hb4 hs1;refine bg4 ?_
 iterate 3 go_step
 obtain⟨w2,hw2⟩:=Nm (w1.alloc (Obj.cells #[.int .i64 0,.int .i64 0,.slice none 0 0,.complex .f64 0 0] 53));obtain⟨b6,hb6⟩:=Nm (w1.heap.size);have H2:Hid (vB w qb b4 b6 Q 0 0 (.slice none 0 0) (.complex .f64 0 0) w2/\bA w2 (.slice a 1 c) [v]):=by
  obtain⟨j1,j2,j3,j4⟩:=H1.out;have hB:Bw w1 w2:=by rw[hw2];exact(Below.refl _ w1).alloc (bfx _) _
  have hN:bW w2 b6 0 0 (.slice none 0 0) (.complex .f64 0 0):=by rw[hw2,hb6];exact bg5 w1 _
  have e:=Tb j3 hB;rw[hb6]at hN ⊢;exact Lh ⟨⟨⟨j4,j2.lt,j1.lt,j3.size⟩,j1.below hB,j2.below hB,hN,e⟩,HI.out.below e⟩
 rw[<-hw2,<-hb6];clear hw2 hb6 H1 HI;have TF:Hid (dw (.complex .f64 0 0) 0 0):=Lh gL;go_wp2_with(fail);go_loopw[12] (Np w qb b4 b6 Q v (.slice a 1 c) m) (λv _=>1-(intOf v).toNat)
 case atStart=>exact .inl ⟨rfl,H2.out.1,H2.out.2⟩
 case round=>
  clear H2;obtain⟨w3,hw3⟩:=Nm wr;rw[<-hw3]at hrel ⊢;clear hw3;rcases hrel with⟨rfl,hS,hI⟩ | ⟨rfl,hO⟩
  ·have H3:=Lh (bfy hS hI);clear hS hI;simp only[bS,fU]at H3;obtain⟨v',pb,po,c',hv',hsa,c0⟩:=H3.out.2.get (t:=0) (by simp)
   obtain rfl:v=v':=by simpa using hv'
   obtain rfl:a=some ⟨pb,po,none⟩:=by injection hsa
   rw[Nat.add_zero]at c0;clear hsa hv';obtain⟨d0,d1,d2,d3,d4,d5⟩:=SV.out w3 H3.out.1.2.1;obtain⟨x0,x1,x2,x3⟩:=H3.out.1.2.2.2.1.d4;go_upto_region 5 with(fail);refine bg4 ?_
   iterate 12 go_step
   refine bU rfl _ (.tmp 20) (.tmp 19) rfl ⟨b6,0,none⟩ (.int .i64 1) (.int .i64 0) rfl rfl rfl rfl sizeOf3 x0 (bW.qi H3.out.1.2.2.2.1 0) ?_;obtain⟨w4,hw⟩:=Nm (w3.setCell ⟨b6,0,none⟩ (.int .i64 1));have H4:Hid (vB w qb b4 b6 Q 1 0 (.slice none 0 0) (.complex .f64 0 0) w4):=by
    have hg:w3.grownBy w4 (some b6):=by rw[hw];exact bL _ _ _ _
    exact Lh (H3.out.1.turn hg (by rw[hw];exact bW.set0 H3.out.1.2.2.2.1 1))
   rw[<-hw];clear hw H3 d0 d1 d2 d3 d4 d5 x0 x1 x2 x3 c0;obtain⟨d0,d1,d2,d3,d4,d5⟩:=SV.out w4 H4.out.2.1;obtain⟨x0,x1,x2,x3⟩:=H4.out.2.2.2.1.d4;have YI:Hid (bA w4 (.slice none 0 0) []):=Lh (bA.nil _);go_upto_block 2 with(fail);go_cut[]from 23 to 78 (λwx=>vW w qb b4 b6 Q m wx)
   case first=>
    by_cases h2:agg=2
    ·subst h2;go_upto_region 9 with(fail);refine bg4 ?_
     iterate 15 go_step
     refine bU rfl _ (.tmp 30) (.tmp 29) rfl ⟨b6,1,none⟩ (.int .i64 v) (.int .i64 0) rfl rfl rfl rfl sizeOf3 x1 (bW.qi H4.out.2.2.2.1 1) ?_;have HC:Hid (vW w qb b4 b6 Q m (w4.setCell ⟨b6,1,none⟩ (.int .i64 v))):=by
      have hg:w4.grownBy (w4.setCell ⟨b6,1,none⟩ (.int .i64 v)) (some b6):=bL _ _ _ _;have e:m=⟨1,v,[],0,0⟩:=by rw[HM.out];simp[kv,rQ]
      rw[e];exact Lh ⟨_,_,H4.out.turn hg (bW.set1 H4.out.2.2.2.1 _),bA.nil _,TF.out⟩
     clear x0 x1 x2 x3 d0 d1 d2 d3 d4 d5;go_wp2_with(fail);go_meet;exact HC.out
    have e2:(agg==2)=false:=by simpa using h2
    by_cases h3:agg=3
    ·subst h3;clear h2;go_upto_region 12 with(fail);refine bg4 ?_
     iterate 6 go_step
     refine bU rfl _ (.tmp 42) (.tmp 41) rfl ⟨b6,1,none⟩ (.int .i64 v) (.int .i64 0) rfl rfl rfl rfl sizeOf3 x1 (bW.qi H4.out.2.2.2.1 1) ?_;have HC:Hid (vW w qb b4 b6 Q m (w4.setCell ⟨b6,1,none⟩ (.int .i64 v))):=by
      have hg:w4.grownBy (w4.setCell ⟨b6,1,none⟩ (.int .i64 v)) (some b6):=bL _ _ _ _;have e:m=⟨1,v,[],0,0⟩:=by rw[HM.out];simp[kv,rQ]
      rw[e];exact Lh ⟨_,_,H4.out.turn hg (bW.set1 H4.out.2.2.2.1 _),bA.nil _,TF.out⟩
     clear x0 x1 x2 x3 d0 d1 d2 d3 d4 d5;go_wp2_with(fail);go_meet;exact HC.out
    have e3:(agg==3)=false:=by simpa using h3
    by_cases h4:agg=4
    ·subst h4;clear h2 h3;go_upto_region 15 with(fail);refine bg4 ?_
     iterate 6 go_step
     refine bU rfl _ (.tmp 54) (.tmp 53) rfl ⟨b6,1,none⟩ (.int .i64 v) (.int .i64 0) rfl rfl rfl rfl sizeOf3 x1 (bW.qi H4.out.2.2.2.1 1) ?_;have HC:Hid (vW w qb b4 b6 Q m (w4.setCell ⟨b6,1,none⟩ (.int .i64 v))):=by
      have hg:w4.grownBy (w4.setCell ⟨b6,1,none⟩ (.int .i64 v)) (some b6):=bL _ _ _ _;have e:m=⟨1,v,[],0,0⟩:=by rw[HM.out];simp[kv,rQ]
      rw[e];exact Lh ⟨_,_,H4.out.turn hg (bW.set1 H4.out.2.2.2.1 _),bA.nil _,TF.out⟩
     clear x0 x1 x2 x3 d0 d1 d2 d3 d4 d5;go_wp2_with(fail);go_meet;exact HC.out
    have e4:(agg==4)=false:=by simpa using h4
    by_cases h5:agg=5
    ·subst h5;clear h2 h3 h4;go_upto_region 9 with(fail);refine bg4 ?_
     iterate 15 go_step
     refine bU rfl _ (.tmp 30) (.tmp 29) rfl ⟨b6,1,none⟩ (.int .i64 v) (.int .i64 0) rfl rfl rfl rfl sizeOf3 x1 (bW.qi H4.out.2.2.2.1 1) ?_;have HC:Hid (vW w qb b4 b6 Q m (w4.setCell ⟨b6,1,none⟩ (.int .i64 v))):=by
      have hg:w4.grownBy (w4.setCell ⟨b6,1,none⟩ (.int .i64 v)) (some b6):=bL _ _ _ _;have e:m=⟨1,v,[],0,0⟩:=by rw[HM.out];simp[kv,rQ]
      rw[e];exact Lh ⟨_,_,H4.out.turn hg (bW.set1 H4.out.2.2.2.1 _),bA.nil _,TF.out⟩
     clear x0 x1 x2 x3 d0 d1 d2 d3 d4 d5;go_wp2_with(fail);go_meet;exact HC.out
    have e5:(agg==5)=false:=by simpa using h5
    by_cases h6:agg=6
    ·subst h6;clear h2 h3 h4 h5;obtain⟨kn,hk,hk1,hk8⟩:=HK.out rfl;subst hk;have oN:Hid (Calls prog 111 #[.slice none 0 0,.int .i64 v,.int .i64 (kn:Int)] w4 (xJ w4 [v])):=by
      have h:=yS w4 (.slice none 0 0) [] v kn (bA.nil _) (by decide)
      rw[NZ,List.take_of_length_le (by simpa using hk1)]at h
      exact Lh h
     clear hk1 hk8;go_upto_region 17 with(fail);refine bg4 ?_
     iterate 15 go_step
     refine wpList_plain rfl λK hK=>?_;go_step;refine oN.out.mono ?_;rintro e w5 ⟨UC,rfl,hIn,hNf,hB⟩;refine hK _ _ ?_;obtain⟨ZB,ZC,XG,hrn⟩:=hIn;have H5:Hid (vB w qb b4 b6 Q 1 0 (.slice none 0 0) (.complex .f64 0 0) w5/\bA w5 UC [v]):=Lh ⟨H4.out.below hB,⟨ZB,ZC,XG,hrn⟩⟩;clear hK hB hNf hrn oN H4 d0 d1 d2 d3 d4 d5 x0 x1 x2 x3;subst XG;obtain⟨x0,x1,x2,x3⟩:=H5.out.1.2.2.2.1.d4
     iterate 3 go_step
     refine bU rfl _ (.tmp 63) (.tmp 62) rfl ⟨b6,2,none⟩ (.slice ZB 1 ZC) (.slice none 0 0) rfl rfl rfl rfl sizeOf48 x2 (bW.qi H5.out.1.2.2.2.1 2) ?_;have HC:Hid (vW w qb b4 b6 Q m (w5.setCell ⟨b6,2,none⟩ (.slice ZB 1 ZC))):=by
      have hg:w5.grownBy (w5.setCell ⟨b6,2,none⟩ (.slice ZB 1 ZC)) (some b6):=bL _ _ _ _;have e:m=⟨1,0,[v],0,0⟩:=by rw[HM.out];simp[kv,rQ]
      rw[e];exact Lh ⟨_,_,H5.out.1.turn hg (bW.set2 H5.out.1.2.2.2.1 _),H5.out.1.apart H5.out.2 hg,TF.out⟩
     clear x0 x1 x2 x3;go_wp2_with(fail);go_meet;exact HC.out
    have e6:(agg==6)=false:=by simpa using h6
    by_cases h7:agg=7
    ·subst h7;clear h2 h3 h4 h5 h6;obtain⟨tu,ZW⟩:=Nm ((kZ v).1);obtain⟨tw,Yx⟩:=Nm ((kZ v).2);have hbd:(-1<=tu/\tu<=1)/\(-1<=tw/\tw<=1):=by
      rw[ZW,Yx];have:=BX v;omega
     have EI:Hid (m=⟨1,0,[],tu,tw⟩):=Lh (by rw[HM.out,ZW,Yx];simp[kv,rQ])
     have ak:Hid (Calls prog 112 #[.int .i64 v] w4 (bE w4 (.agg #[.int .i64 tu,.int .i64 tw]))):=by
      rw[ZW,Yx];exact Lh (JG w4 v)
     clear ZW Yx;obtain⟨fa,hfa⟩:=Nm (Value.float .f64 (F4 tu));obtain⟨fb,Zi⟩:=Nm (Value.float .f64 (F4 tw));obtain⟨z2,hz2⟩:=Nm (Value.complex .f64 (F4 tu) (F4 tw));have hca:∀w,(convert 3 91 (.int .i64 tu)).run prog w=.ok fa w:=λw=>by rw[hfa];exact jP w underlying3 underlying91
     have hcb:∀w,(convert 3 91 (.int .i64 tw)).run prog w=.ok fb w:=λw=>by rw[Zi];exact jP w underlying3 underlying91
     have hcc:∀ts t w,(Builtin.complex_ ts t #[fa,fb]).run prog w=.ok z2 w:=λts t w=>by rw[hfa,Zi,hz2];exact run_complex w ts t .f64 _ _
     obtain⟨z0p,z0q,hz0,Uc,Ud⟩:=TF.out.1;have hz0':=hz0;obtain⟨e1,e2⟩:0=z0p/\0=z0q:=by simpa using hz0'
     rw[<-e1]at Uc;rw[<-e2]at Ud;clear hz0 hz0' e1 e2 z0p z0q;obtain⟨r1,r2,f1,f2,hadd⟩:=BF (P:=prog) (t:=51) Uc (wG tu (by omega)) Ud (wG tw (by omega)) (by omega) (by omega)
     rw[Int.zero_add]at f1 f2;have aS:Hid (dw (.complex .f64 r1 r2) tu tw):=Lh ⟨⟨r1,r2,rfl,f1,f2⟩,by unfold mr;omega⟩
     have uY:∀w,(binOp .add 51 (.complex .f64 0 0) z2).run prog w=.ok (.complex .f64 r1 r2) w:=by
      rw[hz2];exact hadd
     clear hfa Zi hz2 hadd f1 f2 Uc Ud hbd;go_upto_region 19 with(fail);refine bg4 ?_
     iterate 3 go_step
     refine wpList_plain rfl λK hK=>?_;go_step;refine ak.out.mono ?_;rintro e w5 ⟨rfl,hB⟩;refine hK _ _ ?_;have H5:Hid (vB w qb b4 b6 Q 1 0 (.slice none 0 0) (.complex .f64 0 0) w5):=Lh (H4.out.below hB);clear hK hB ak H4 d0 d1 d2 d3 d4 d5 x0 x1 x2 x3
     iterate 3 go_step
     refine bg6 rfl _ _ _ rfl w5.heap.size (jv tu tw) rfl rfl 132 (jv 0 0) (bg5 w5 _) qy rfl (Bz _ _) ?_;obtain⟨w6,SN⟩:=Nm ((w5.alloc (Obj.cells #[.int .i64 0,.int .i64 0] 132)).setRow w5.heap.size (jv tu tw));obtain⟨gb,hgb⟩:=Nm (w5.heap.size);have H6:Hid (vB w qb b4 b6 Q 1 0 (.slice none 0 0) (.complex .f64 0 0) w6/\w6.heap[gb]? =some (.cells (jv tu tw) 132 (0,0))):=by
      have hB:Bw w5 w6:=by
       rw[SN];exact((Below.refl _ w5).alloc (bfx _) _).trans ⟨rfl,rfl,rfl,by simp[World.setRow],λk hk=>setRow_other _ _ _ _ (by omega)⟩
      refine Lh ⟨H5.out.below hB,?_⟩;rw[SN,hgb];exact setRow_heap _ _ _ _ _ _ (bg5 w5 _)
     rw[<-SN,<-hgb];clear SN hgb H5;have y0:w6.cell? ⟨gb,0,none⟩=some (.int .i64 tu):=by rw[cell_of_row _ _ _ _ _ _ H6.out.2];rfl
     have y1:w6.cell? ⟨gb,1,none⟩=some (.int .i64 tw):=by rw[cell_of_row _ _ _ _ _ _ H6.out.2];rfl
     obtain⟨x0,x1,x2,x3⟩:=H6.out.1.2.2.2.1.d4;go_upto_region 20 with(fail);refine bg4 ?_
     iterate 33 go_step
     refine bU rfl _ (.tmp 78) (.tmp 77) rfl ⟨b6,3,none⟩ (.complex .f64 r1 r2) (.complex .f64 0 0) rfl rfl rfl rfl sizeOf51 x3 (bW.qi H6.out.1.2.2.2.1 3) ?_;have HC:Hid (vW w qb b4 b6 Q m (w6.setCell ⟨b6,3,none⟩ (.complex .f64 r1 r2))):=by
      have hg:w6.grownBy (w6.setCell ⟨b6,3,none⟩ (.complex .f64 r1 r2)) (some b6):=bL _ _ _ _;rw[EI.out];exact Lh ⟨_,_,H6.out.1.turn hg (bW.Q4 H6.out.1.2.2.2.1 _),bA.nil _,aS.out⟩
     clear x0 x1 x2 x3 y0 y1 hca hcb hcc uY;go_wp2_with(fail);go_meet;exact HC.out
    have e7:(agg==7)=false:=by simpa using h7
    have HC:Hid (vW w qb b4 b6 Q m w4):=by
     have e:m=⟨1,0,[],0,0⟩:=by rw[HM.out];simp[kv,rQ,h2,h3,h4,h5,h6,h7]
     rw[e];exact Lh ⟨_,_,H4.out,bA.nil _,TF.out⟩
    clear h2 h3 h4 h5 h6 h7;go_wp2_with(fail);go_meet;exact HC.out
   case rest=>
    have H5:=Lh hcut;clear hcut H4 YI d0 d1 d2 d3 d4 d5 x0 x1 x2 x3;obtain⟨w5,Xu⟩:=Nm wc;rw[<-Xu]at H5 ⊢;clear Xu;obtain⟨tv,z,hS,hI,hz⟩:=H5.out;have H6:=Lh (bfy hS (bfy hI hz));have Xi:=Lh (TK.out w5 tv z hI hz);clear hS H5;obtain⟨ta,tc,XR,_⟩:=hI;obtain⟨zp,zq,hzv,_⟩:=hz.1;obtain⟨L,hL⟩:=Nm (m.top.length);rw[<-hL]at XR;clear hz hL;subst XR hzv;obtain⟨d0,d1,d2,d3,d4,d5⟩:=SV.out w5 H6.out.1.2.1;obtain⟨x0,x1,x2,x3⟩:=H6.out.1.2.2.2.1.d4;go_wp2_with(fail);refine Xi.out.mono ?_;rintro e w6 ⟨rfl,hB⟩;have HC:Hid (Np w qb b4 b6 Q v (.slice (some ⟨pb,po,none⟩) 1 c) m (.int .i64 1) w6):=Lh (.inr ⟨rfl,_,_,H6.out.1.below hB,H6.out.2.1.below hB,H6.out.2.2⟩);clear hB Xi H6 d0 d1 d2 d3 d4 d5 x0 x1 x2 x3;dsimp only;go_wp2_with(fail);go_roundw
    case rel=>exact HC.out
    case measure=>simp[intOf]
  have H3:=Lh hO;clear hO;obtain⟨tv,z,hS,hI,hz⟩:=H3.out;have H4:=Lh (bfy hS (bfy hI hz));clear hS;obtain⟨ta,tc,XR,_⟩:=hI;obtain⟨zp,zq,hzv,_⟩:=hz.1;obtain⟨L,hL⟩:=Nm (m.top.length);rw[<-hL]at XR;clear hz hL H3;subst XR hzv;obtain⟨y0,y1,y2,y3⟩:=H4.out.1.2.2.2.1.d4;go_upto_region 24 with(fail);refine bg4 ?_
  iterate 3 go_step
  refine bg6 rfl _ _ _ rfl b4 (bI 1 m.a (.slice ta L tc) (.complex .f64 zp zq)) rfl rfl 53 dE H4.out.1.2.2.1 bV rfl (gm H4.out.2.1 H4.out.2.2) ?_;obtain⟨wy,Sy⟩:=Nm (w3.setRow b4 (bI 1 m.a (.slice ta L tc) (.complex .f64 zp zq)));have HZ:Hid (bW wy b4 1 m.a (.slice ta L tc) (.complex .f64 zp zq)/\P (.returned (.tuple #[.agg #[.int .i64 1,.int .i64 m.a,.slice ta L tc,.complex .f64 zp zq],.bool true])) wy):=by
   have hg:=bC w3 b4 (bI 1 m.a (.slice ta L tc) (.complex .f64 zp zq));obtain⟨h0,h1,h2,h3,h4⟩:=H4.out.1;rw[Sy];refine Lh ⟨h2.reset _ _ _ _,TI.out _ _ _ (H4.out.2.1.grown hg (λ_ _ _ e hne=>H4.out.2.1.apart e hne h2 (by decide))) H4.out.2.2 (h4.trans (bG hg (by omega) h4.size))⟩
  rw[<-Sy];clear Sy y0 y1 y2 y3;go_wp2_with(fail);exact bodyPost_ret (v:=.tuple #[.agg (bI 1 m.a (.slice ta L tc) (.complex .f64 zp zq)),.bool true]) ((bK (p:=4) (u:=5) (ty:=53) rfl _ _ b4 53 (bI 1 m.a (.slice ta L tc) (.complex .f64 zp zq)) (0,0) _ rfl HZ.out.1 underlying53 rfl bV).trans rfl) rfl HZ.out.2
theorem Bo {q:bz} {v:Int}(hq:q.bB=true)(hv: -1099511627776<=v/\v<=1099511627776):(kv q.agg v).bB q=true:=by
 obtain⟨_,_,_,_,_,ha,hk,hk0⟩:=gU hq;have ht:=BX v;rw[nO];have hm: -lL q.agg<=rQ q.agg v/\rQ q.agg v<=lL q.agg:=by
  unfold lL rQ
  repeat' split
  all_goals omega
 refine⟨hq,⟨(by show(0:Int)<=1;decide),(by show(1:Int)<=1073741824;decide)⟩,?_,hm,λh=>?_,λh=>absurd h (by show ¬(1:Int)=0;decide),?_,λi hi=>?_⟩
 ·unfold mr kv;simp only
  split
  ·omega
  omega
 ·unfold kv;simp only;rw[if_neg h,if_neg h];exact⟨rfl,rfl⟩
 ·unfold kv;simp only;by_cases h6:q.agg=6
  ·rw[if_pos h6,if_pos h6];have:=hk h6;simp only[bg0];omega
  rw[if_neg h6,if_neg h6];rfl
 unfold kv at hi ⊢;simp only at hi ⊢;by_cases h6:q.agg=6
 ·rw[if_pos h6]at hi ⊢;simp only[bg0]at hi;obtain rfl:i=0:=by omega
  refine⟨?_,λh=>absurd h (Nat.lt_irrefl 0)⟩;show jL v 1099511627776=true;unfold jL;exact bfr hv
 rw[if_neg h6]at hi;simp at hi
theorem ND {q:bz} {x:dS} {v:Int}(hv: -1099511627776<=v/\v<=1099511627776):jV q x v=dA q x (kv q.agg v):=by
 unfold jV;rw[if_pos (by unfold jL;simpa using hv)]
theorem yJ {q:bz} {b:bg}:∀(l:List bH) (p:dS × Int),p.1.bB q=true->(dY q b l p).2.2=0->(dY q b l p).1.bB q=true
 | [],_,h,_=>h
 | o::l,p,h,he=>by
  unfold dY at he ⊢
  split at he
  ·rename_i h1;rw[if_pos h1];exact yJ l _ (xS h1) he
  rename_i h1;exact absurd he h1
theorem FZ {q:bz}(hq:q.bB=true):dP.bB q=true:=by
 obtain⟨_,_,_,_,_,ha,hk,hk0⟩:=gU hq;rw[nO];refine⟨hq,by decide,by unfold mr dP;simp only;decide,?_,λ_=>⟨rfl,rfl⟩,λ_=>⟨rfl,rfl,rfl⟩,?_,λi hi=>by simp[dP]at hi⟩
 ·unfold lL dP;simp only
  repeat' split
  all_goals decide
 show((0:Nat):Int)=if q.agg=6 then min 0 q.k else 0
 split
 ·rename_i h6;have:=hk h6;omega
 rfl
theorem PW {q:bz} {mark v:Int} {ws:List bg} {c0:kg} {i:Nat} {W:bg} {ps:List bH} {os:List dB} {lt:Bool}(hw:dC q mark v ws c0=dC q mark v (ws.drop i) ⟨ps,os,lt,0⟩)(hW:ws[i]? =some W)(hg:gy q (dN q ps W) mark=false) {b:bg}(hb:b=dN q ps W) {G:dS × Int × Int}(hG:G=dY q b (dX q ps W) (dP,0)):
  (G.2.2≠0->dC q mark v ws c0=⟨[],[],false,G.2.2⟩)/\
  (G.2.2=0->(jV q G.1 v).2≠0->dC q mark v ws c0=⟨[],[],false,(jV q G.1 v).2⟩)/\
  (G.2.2=0->(jV q G.1 v).2=0->1073741824<(fC ⟨b,(jV q G.1 v).1,G.2.1⟩ mark).r->dC q mark v ws c0=⟨[],[],false,20⟩)/\
  (G.2.2=0->(jV q G.1 v).2=0->¬1073741824<(fC ⟨b,(jV q G.1 v).1,G.2.1⟩ mark).r->
   dC q mark v ws c0=dC q mark v (ws.drop (i+1)) ⟨jR (gK q ps W) (fC ⟨b,(jV q G.1 v).1,G.2.1⟩ mark),os++(if ji b mark=true then [kS q (fC ⟨b,(jV q G.1 v).1,G.2.1⟩ mark)]else []),false,0⟩/\
   (kW q mark v ⟨ps,os,lt,0⟩ W).e=0/\(kW q mark v ⟨ps,os,lt,0⟩ W).panes=jR (gK q ps W) (fC ⟨b,(jV q G.1 v).1,G.2.1⟩ mark)):=by
 subst hb hG;have hgr:dJ q (dN q ps W) (dX q ps W) v=if (dY q (dN q ps W) (dX q ps W) (dP,0)).2.2=0 then
  (if (jV q (dY q (dN q ps W) (dX q ps W) (dP,0)).1 v).2=0 then (⟨dN q ps W,(jV q (dY q (dN q ps W) (dX q ps W) (dP,0)).1 v).1,(dY q (dN q ps W) (dX q ps W) (dP,0)).2.1⟩,0)else (sM,(jV q (dY q (dN q ps W) (dX q ps W) (dP,0)).1 v).2))
  else (sM,(dY q (dN q ps W) (dX q ps W) (dP,0)).2.2):=rfl
 obtain⟨G,hG⟩:=Nm (dY q (dN q ps W) (dX q ps W) (dP,0));rw[<-hG]at hgr ⊢;have hwin:kW q mark v ⟨ps,os,lt,0⟩ W=if (dJ q (dN q ps W) (dX q ps W) v).2≠0 then ⟨[],[],false,(dJ q (dN q ps W) (dX q ps W) v).2⟩
  else if 1073741824<(fC (dJ q (dN q ps W) (dX q ps W) v).1 mark).r then ⟨[],[],false,20⟩
  else ⟨jR (gK q ps W) (fC (dJ q (dN q ps W) (dX q ps W) v).1 mark),os++(if ji (dN q ps W) mark=true then [kS q (fC (dJ q (dN q ps W) (dX q ps W) v).1 mark)]else []),false,0⟩:=by
  unfold kW;rw[if_neg (by show ¬gy q (dN q ps W) mark=true;rw[hg];decide)]
 have hstep:=l5 hw hW;refine⟨λh=>?_,λh h2=>?_,λh h2 h3=>?_,λh h2 h3=>?_⟩
 ·rw[if_neg h]at hgr;rw[hgr,if_pos h]at hwin;rw[hstep,hwin,if_neg h]
 ·rw[if_pos h,if_neg h2]at hgr;rw[hgr,if_pos h2]at hwin;rw[hstep,hwin,if_neg h2]
 ·rw[if_pos h,if_pos h2]at hgr;rw[hgr,if_neg (by simp),if_pos h3]at hwin
  rw[hstep,hwin,if_neg (by decide)]
 rw[if_pos h,if_pos h2]at hgr;rw[hgr,if_neg (by simp),if_neg h3]at hwin
 rw[hstep,hwin,if_pos rfl];exact⟨rfl,rfl,rfl⟩
def Hq(q:bz)(s:di)(x:bN):di × List dB × Int:=if (dR q s x).2.2=0 then dR q s x else (s,[],(dR q s x).2.2)
def kD(q:bz)(s:di)(x:bN):di × List dB × Int:=if (gQ q s x).2.2=0 then gQ q s x else (s,[],(gQ q s x).2.2)
theorem LA {q:bz} {m:Int} {ps:List bH} {x:bN} {c:kg}(h:dC q m x.value (lM q x.key x.time) ⟨ps,[],true,0⟩=c)(he:c.e≠0):kD q ⟨m,ps⟩ x=(⟨m,ps⟩,[],c.e):=by
 have e:gQ q ⟨m,ps⟩ x=(xE,[],c.e):=by
  unfold gQ;rw[show dC q (⟨m,ps⟩:di).mark x.value (lM q x.key x.time) ⟨(⟨m,ps⟩:di).panes,[],true,0⟩=c from h,if_pos he]
 unfold kD;rw[e,if_neg he]
theorem Ju {q:bz} {m:Int} {ps:List bH} {x:bN} {c:kg}(h:dC q m x.value (lM q x.key x.time) ⟨ps,[],true,0⟩=c)(he:c.e=0)(hl:c.late=true):kD q ⟨m,ps⟩ x=(⟨m,ps⟩,[sj x],0):=by
 have e:gQ q ⟨m,ps⟩ x=(⟨m,ps⟩,[sj x],0):=by
  unfold gQ;rw[show dC q (⟨m,ps⟩:di).mark x.value (lM q x.key x.time) ⟨(⟨m,ps⟩:di).panes,[],true,0⟩=c from h,if_neg (by simp[he]),if_pos hl]
 unfold kD;rw[e,if_pos rfl]
theorem Jt {q:bz} {m:Int} {ps:List bH} {x:bN} {c:kg}(h:dC q m x.value (lM q x.key x.time) ⟨ps,[],true,0⟩=c)(he:c.e=0)(hl:c.late=false)(hn:256<c.panes.length):kD q ⟨m,ps⟩ x=(⟨m,ps⟩,[],30):=by
 have e:gQ q ⟨m,ps⟩ x=(xE,[],30):=by
  unfold gQ;rw[show dC q (⟨m,ps⟩:di).mark x.value (lM q x.key x.time) ⟨(⟨m,ps⟩:di).panes,[],true,0⟩=c from h,if_neg (by simp[he]),if_neg (by simp[hl]),if_pos hn]
 unfold kD;rw[e,if_neg (by decide)]
theorem LB {q:bz} {m:Int} {ps:List bH} {x:bN} {c:kg}(h:dC q m x.value (lM q x.key x.time) ⟨ps,[],true,0⟩=c)(he:c.e=0)(hl:c.late=false)(hn:¬256<c.panes.length):kD q ⟨m,ps⟩ x=(⟨m,c.panes⟩,c.outs,0):=by
 have e:gQ q ⟨m,ps⟩ x=(⟨m,c.panes⟩,c.outs,0):=by
  unfold gQ;rw[show dC q (⟨m,ps⟩:di).mark x.value (lM q x.key x.time) ⟨(⟨m,ps⟩:di).panes,[],true,0⟩=c from h,if_neg (by simp[he]),if_neg (by simp[hl]),if_neg hn]
 unfold kD;rw[e,if_pos rfl]
end Go.Proofs.YtjeeghafachebaaGreat
