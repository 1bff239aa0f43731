/-
  50.
-/
import Derived.Test.YtjeeghafachebaaGreatU49
set_option maxRecDepth 100000
set_option maxHeartbeats 8000000
namespace Go.Proofs.YtjeeghafachebaaGreat
open Go Go.RowKit Go.Proofs.Tryz
theorem yL:((prog.info? 42).map λi=>(i.zero,i.size,i.bytes))=some (some (.agg #[.int .i64 0,.string ⟨#[]⟩,.int .i64 0,.int .i64 0]),4,40):=by kernel_rfl
theorem zk {ops:Array Oper} {rest:List Oper} {o:Oper} {a:Act} {w:World} {Q:Exit->Act->World->Prop}(hg:o.guard=none)(y:Operand)(ho:o.op=.buildSlice 24 1 #[(0,y)])(x:bN)(hy:a.eval y=.agg x.cells)
  (h:wpList prog ops Q rest (a.put o.dst (.slice (some ⟨w.heap.size,0,none⟩) 1 1)) (w.alloc (.cells x.cells 42))):wpList prog ops Q (o::rest) a w:=by
 have hF:Instr.fill (λi=>some (i*4,4)) ((Array.range (1*4)).map ((Value.agg #[.int .i64 0,.string ⟨#[]⟩,.int .i64 0,.int .i64 0]).cells[· % (Value.agg #[.int .i64 0,.string ⟨#[]⟩,.int .i64 0,.int .i64 0]).cells.size]!)) [(0,.agg x.cells)]=some x.cells:=by kernel_rfl
 obtain⟨i,hi,hz0,hz1,hz2⟩:=info_parts yL;refine wpList_buildSlice hg 24 42 1 _ ho x.cells i _ underlying24 hi hz0 (by rw[hz1];decide) (by rw[hz1];decide) ?_ h
 rw[hz1];simp only[bgb,bgc,bge,hy];exact hF
theorem gq.one {w:World} {g:Nat} {y:bN}(h:jy w g y):gq w (some ⟨g,0,none⟩) [y]:=by
 refine .inr ⟨g,0,rfl,λi x hx j v hv=>?_⟩
 cases i with
 | zero=>
  simp only[bgp,bf5]at hx;subst hx;rw[cell_of_row _ _ _ _ _ _ h,Nat.zero_mul,bgu];exact hv
 | succ i=>simp at hx
theorem J3(w:World)(q:bz)(m:Int)(pv:Value)(x:bN)(l:List bn)(hA:bO w pv l)(hG:∀y∈l,bR w y)(hF:qG l)(hk:x.key.length<=1000000):
  Calls prog 15 #[.agg q.cells,.agg #[.int .i64 m,pv],.agg x.cells] w (jf w (qB q ⟨m,l.map bn.p⟩ [x]).s (qB q ⟨m,l.map bn.p⟩ [x]).outs (qB q ⟨m,l.map bn.p⟩ [x]).e):=by
 obtain⟨P,hP⟩:=Nm (jf w (qB q ⟨m,l.map bn.p⟩ [x]).s (qB q ⟨m,l.map bn.p⟩ [x]).outs (qB q ⟨m,l.map bn.p⟩ [x]).e);rw[<-hP];obtain⟨R,hR⟩:=Nm (qB q ⟨m,l.map bn.p⟩ [x]);have TI:Hid (∀wz sv ov,gW wz sv R.s->fw wz ov R.outs->Bw w wz->P (.returned (.tuple #[sv,ov,.int .i64 R.e])) wz):=by
  rw[hP,hR];exact Lh (λwz sv ov h1 h2 h3=>⟨sv,ov,rfl,h1,h2,h3⟩)
 have EE:Hid (∀w' g,Bw w w'->jy w' g x->Calls prog 8 #[.agg q.cells,.agg #[.int .i64 m,pv],.slice (some ⟨g,0,none⟩) 1 1] w' (rU w' R)):=by
  rw[hR];exact Lh (λw' g hB hr=>Bu w' q m pv l _ 1 [x] (hA.below hB) (λy hy=>(hG y hy).below hB) hF (gq.one hr) (λy hy=>by rw[List.mem_singleton.1 hy];exact hk) (by simp))
 obtain⟨sa,sc,hpv,hz1,hz2⟩:=hA.form;clear hz1 hz2;obtain⟨w1,hw1⟩:=Nm ((((w.alloc (.cells q.cells 23)).alloc (.cells #[.int .i64 m,pv] 29)).alloc (.cells x.cells 42)).alloc (.cells #[.int .i64 0,.slice none 0 0] 29));obtain⟨qb,Sm⟩:=Nm (w.heap.size);obtain⟨sb,hsb⟩:=Nm (w.heap.size+1);obtain⟨xb,hxb⟩:=Nm (w.heap.size+2);obtain⟨rb,hrb⟩:=Nm (w.heap.size+3);have H1:Hid (dn w1 qb q/\bT w1 sb m pv/\jy w1 xb x/\bT w1 rb 0 bS/\Bw w w1/\w1.heap.size=w.heap.size+4):=by rw[hw1,Sm,hsb,hxb,hrb];exact Lh (rY w q m pv x)
 have SA:Hid (w.heap.size<=rb):=Lh (by omega)
 clear hP hR hA hG hF hk;obtain⟨Q,hQ⟩:=Nm q;rw[<-hQ]at H1;obtain⟨X,hX⟩:=Nm x;rw[<-hX]at H1 EE;obtain⟨kind,size,slide,late,agg,kq⟩:=q;obtain⟨TB,xk,xt,xv⟩:=x;have SV:Hid (∀w',dn w' qb Q->D6 w' qb kind size slide late agg kq):=by rw[hQ];exact Lh (λw' h=>h.d6)
 have Vu:Hid (∀w',jy w' xb X->DX w' xb TB xk xt xv):=by rw[hX];exact Lh (λw' h=>h.dx)
 have SY:Hid (X=⟨TB,xk,xt,xv⟩):=Lh hX;clear hQ hX;obtain⟨n,hn⟩:=Nm (l.length);rw[<-hn]at hpv;clear hn;subst hpv;unfold bz.cells bN.cells at hw1 ⊢;unfold bz.cells at EE;simp only at hw1 EE ⊢;have hs1:(w.alloc (.cells #[.int .i64 kind,.int .i64 size,.int .i64 slide,.int .i64 late,.int .i64 agg,.int .i64 kq] 23)).heap.size=w.heap.size+1:=bq w _;have hs2:((w.alloc (.cells #[.int .i64 kind,.int .i64 size,.int .i64 slide,.int .i64 late,.int .i64 agg,.int .i64 kq] 23)).alloc (.cells #[.int .i64 m,.slice sa n sc] 29)).heap.size=w.heap.size+2:=by rw[bq,bq]
 have hs3:(((w.alloc (.cells #[.int .i64 kind,.int .i64 size,.int .i64 slide,.int .i64 late,.int .i64 agg,.int .i64 kq] 23)).alloc (.cells #[.int .i64 m,.slice sa n sc] 29)).alloc (.cells #[.int .i64 TB,Sv xk,.int .i64 xt,.int .i64 xv] 42)).heap.size=w.heap.size+3:=by rw[bq,bq,bq]
 obtain⟨d0,d1,d2,d3,d4,d5⟩:=SV.out w1 H1.out.1;obtain⟨e0,e1⟩:=H1.out.2.1.d2;obtain⟨x0,x1,x2,x3⟩:=Vu.out w1 H1.out.2.2.1;go_enter func15,ntmps15;go_upto_region 1 with(fail);rw[<-hw1,<-hrb,<-hxb,<-hsb,<-Sm];clear hw1 hrb hxb hsb Sm hs1 hs2 hs3;refine bg4 ?_
 iterate 9 go_step
 refine zk rfl (.tmp 16) rfl X (by rw[SY.out];rfl) ?_
 obtain⟨w2,hw2⟩:=Nm (w1.alloc (.cells X.cells 42));obtain⟨gb,hgb⟩:=Nm (w1.heap.size);have H2:Hid (jy w2 gb X/\bT w2 rb 0 bS/\Bw w w2):=by
  have hB:=(Below.refl _ w1).alloc (bfx _) (.cells X.cells 42);rw[<-hw2]at hB;exact Lh ⟨by rw[hw2,hgb];exact bg5 w1 _,H1.out.2.2.2.1.below hB,H1.out.2.2.2.2.1.trans (hB.mono H1.out.2.2.2.2.1.size)⟩
 rw[<-hw2,<-hgb];clear hw2 hgb d0 d1 d2 d3 d4 d5 e0 e1 x0 x1 x2 x3;refine wpList_plain rfl λK' hK'=>?_;go_step;refine(EE.out w2 gb H2.out.2.2 H2.out.1).mono ?_;rintro e w3 ⟨sv,ov,rfl,⟨pv',l',rfl,hP1,hP2,hP3⟩,hO,hB⟩;refine hK' _ _ ?_;clear hK';obtain⟨m',hm'⟩:=Nm (R.s.mark);rw[<-hm'];have H3:Hid (bT w3 rb 0 bS/\Bw w w3/\bO w3 pv' l'/\(∀y∈l',bR w3 y)/\R.s.panes=l'.map bn.p/\fw w3 ov R.outs/\m'=R.s.mark):=Lh ⟨H2.out.2.1.below hB,H2.out.2.2.trans (hB.mono H2.out.2.2.size),hP1,hP2,hP3,hO,hm'⟩;clear hB hP1 hP2 hP3 hO hm'
 iterate 18 go_step
 refine bg6 rfl _ _ _ rfl w3.heap.size #[.int .i64 m',pv'] rfl rfl 29 #[.int .i64 0,bS] (bg5 w3 _) bF rfl (cB H3.out.2.2.1.one) ?_;obtain⟨w4,hw4⟩:=Nm ((w3.alloc (Obj.cells #[.int .i64 0,.slice none 0 0] 29)).setRow w3.heap.size #[.int .i64 m',pv']);obtain⟨tb,htb⟩:=Nm (w3.heap.size);have H4:Hid (bT w4 rb 0 bS/\Bw w w4/\bO w4 pv' l'/\(∀y∈l',bR w4 y)/\R.s.panes=l'.map bn.p/\fw w4 ov R.outs/\m'=R.s.mark/\bT w4 tb m' pv'):=by
  obtain⟨k1,k2⟩:=jH w3 m' pv';have e:w4=(w3.alloc (Obj.cells #[.int .i64 0,bS] 29)).setRow w3.heap.size #[.int .i64 m',pv']:=hw4;rw[<-e,<-htb]at k1;rw[<-e]at k2;obtain⟨j1,j2,j3,j4,j5,j6,j7⟩:=H3.out;exact Lh ⟨j1.below k2,Tb j2 k2,j3.below k2,λy hy=>(j4 y hy).below k2,j5,j6.below k2,j7,k1⟩
 rw[<-hw4,<-htb];clear hw4 htb H3;obtain⟨e0,e1⟩:=H4.out.2.2.2.2.2.2.2.d2;go_upto_region 2 with(fail);refine bg4 ?_
 iterate 9 go_step
 refine bg6 rfl _ _ _ rfl rb #[.int .i64 m',pv'] rfl rfl 29 #[.int .i64 0,bS] H4.out.1 bF rfl (cB H4.out.2.2.1.one) ?_;obtain⟨wz,hwz⟩:=Nm (w4.setRow rb #[.int .i64 m',pv']);have HZ:Hid (bT wz rb m' pv'/\P (.returned (.tuple #[.agg #[.int .i64 m',pv'],ov,.int .i64 R.e])) wz):=by
  have hg:w4.grownBy wz (some rb):=by rw[hwz];exact bC _ _ _
  obtain⟨j1,j2,j3,j4,j5,j6,j7,_⟩:=H4.out;exact Lh ⟨by rw[hwz];exact bT.reset j1 m' _,TI.out wz _ ov ⟨pv',l',by rw[j7],j3.store j1 hg,λy hy=>(j4 y hy).kJ j1 hg,j5⟩ (j6.store j1 hg) (j2.trans (bG hg SA.out j2.size))⟩
 rw[<-hwz];clear hwz e0 e1;go_wp2_with(fail);exact bodyPost_ret (v:=.tuple #[.agg #[.int .i64 m',pv'],ov,.int .i64 R.e]) ((bQ (p:=6) (s:=7) (u:=8) (ty:=29) rfl _ _ rb 29 #[.int .i64 m',pv'] (0,0) _ rfl HZ.out.1 underlying29 rfl bF).trans rfl) rfl HZ.out.2
theorem gW.store {w w':World} {v:Value} {s:di} {b n c:Nat} {m:Int} {a:Option Addr}(h:gW w v s)(hb:bT w b m (.slice a n c))(hg:w.grownBy w' (some b)):gW w' v s:=by
 obtain⟨pv,l,h1,h2,h3,h4⟩:=h;exact⟨pv,l,h1,h2.store hb hg,λx hx=>(h3 x hx).kJ hb hg,h4⟩
def zt(r:kC)(w:World)(v:Value):Prop:=∃sv ov,v=.tuple #[sv,ov,.int .i64 r.n,.int .i64 r.e]/\gW w sv r.s/\fw w ov r.outs
def Ro(B:Nat)(r:kC)(k:Nat)(w:World)(v:Value):Prop:=∃b,v=.pointer (some ⟨b,0,none⟩)/\B<=b/\if k<=1 then bT w b 0 bS else ∃m pv,bT w b m pv/\gW w (.agg #[.int .i64 m,pv]) r.s
theorem zt.below {r:kC} {w w':World} {v:Value}(h:zt r w v)(hB:Bw w w'):zt r w' v:=by
 obtain⟨sv,ov,h1,h2,h3⟩:=h;exact⟨sv,ov,h1,h2.below hB,h3.below hB⟩
theorem zt.store {r:kC} {w w':World} {v:Value} {b:Nat}(h:zt r w v)(hb:bT w b 0 bS)(hg:w.grownBy w' (some b)):zt r w' v:=by
 obtain⟨sv,ov,h1,h2,h3⟩:=h;exact⟨sv,ov,h1,h2.store hb hg,h3.store hb hg⟩
def Qq(c B:Nat)(r:kC):List (Nat × (Nat->World->Value->Prop)):=
 [(c,λ_ w v=>zt r w v),(c+1,λ_ w v=>zt r w v),(c+2,λ_ w v=>gW w v r.s),(c+3,λ_ w v=>fw w v r.outs),(c+6,Ro B r),(c+8,λ_ w v=>fw w v r.outs)]
theorem Nv {c B:Nat} {r:kC}:∀p∈Qq c B r,∀k w w' v,Bw w w'->p.2 k w v->p.2 k w' v:=by
 intro p hp k w w' v hB h;simp only[Qq,bf2,bf9,or_false]at hp;rcases hp with rfl | rfl | rfl | rfl | rfl | rfl
 ·exact zt.below h hB
 ·exact zt.below h hB
 ·exact gW.below h hB
 ·exact fw.below h hB
 ·obtain⟨b,h1,h2,h3⟩:=h;refine⟨b,h1,h2,?_⟩
  split at h3
  ·rename_i hk;rw[if_pos hk];exact h3.below hB
  rename_i hk;rw[if_neg hk];obtain⟨m,pv,h4,h5⟩:=h3;exact⟨m,pv,h4.below hB,h5.below hB⟩
 exact fw.below h hB
theorem CL {c B:Nat} {r:kC} {w w':World} {l:List Oper} {a:Act}(hB:Bw w w'):∀p∈Qq c B r,c+6=p.1∨∀d,dQ l p.1=some d->p.2 0 w (a.eval (.tmp d))->p.2 1 w' (a.eval (.tmp d)):=by
 intro p hp;simp only[Qq,bf2,bf9,or_false]at hp;rcases hp with rfl | rfl | rfl | rfl | rfl | rfl
 ·exact .inr λd _ h=>zt.below h hB
 ·exact .inr λd _ h=>zt.below h hB
 ·exact .inr λd _ h=>gW.below h hB
 ·exact .inr λd _ h=>fw.below h hB
 ·exact .inl rfl
 exact .inr λd _ h=>fw.below h hB
theorem F8 {c B t:Nat} {r:kC} {w w':World} {b:Nat} {m:Int} {pv:Value} {l:List Oper} {a:Act}(hl:dQ l (c+6)=some t)(ha:a.eval (.tmp t)=.pointer (some ⟨b,0,none⟩))(hb:bT w b 0 bS)(hBb:B<=b)(hg:w.grownBy w' (some b))(hr:bT w' b m pv)
  (hS:gW w' (.agg #[.int .i64 m,pv]) r.s):∀p∈Qq c B r,c+7=p.1∨∀d,dQ l p.1=some d->p.2 1 w (a.eval (.tmp d))->p.2 2 w' (a.eval (.tmp d)):=by
 intro p hp;simp only[Qq,bf2,bf9,or_false]at hp;rcases hp with rfl | rfl | rfl | rfl | rfl | rfl
 ·exact .inr λd _ h=>zt.store h hb hg
 ·exact .inr λd _ h=>zt.store h hb hg
 ·exact .inr λd _ h=>gW.store h hb hg
 ·exact .inr λd _ h=>fw.store h hb hg
 ·refine .inr λd hd _=>?_;rw[hl]at hd;cases hd
  refine⟨b,ha,hBb,?_⟩;rw[if_neg (by decide)]
  exact⟨m,pv,hr,hS⟩
 exact .inr λd _ h=>fw.store h hb hg
theorem Pq {q:bz} {s:di} {its:List bN}(hs:dL q s.panes 256)(hk:∀x∈its,x.key.length<=1000000):jr (qB q s its).outs/\(qB q s its).outs.length<=256*its.length/\dL q (qB q s its).s.panes 256:=by
 unfold qB
 split
 ·exact⟨λx hx=>by simp at hx,by simp,hs⟩
 obtain⟨k1,k2,k3⟩:=G9 its s [] 0 hs hk (λx hx=>by simp at hx)
 exact⟨k1,by simpa using k2,k3⟩
theorem KY(q:bz):dL q xU.panes 256:=by
 refine⟨?_,λx hx=>by simp[xU]at hx,by decide⟩
 unfold fH xU fI
 split
 ·exact bfr dD.nil
 exact bfr List.Pairwise.nil
theorem Fp {q:bz} {l:List bn} {s:di}(h:dL q s.panes 256)(hs:s.panes=l.map bn.p):qG l:=by
 rw[hs]at h;exact(h.sorted (by decide)).1
theorem Qc {w:World} {m1 m2:Int} {TR T9:Value} {q1 q2:bz} {s1 s2:di}(h1:gW w (.agg #[.int .i64 m1,TR]) s1)(h2:gW w (.agg #[.int .i64 m2,T9]) s2)(c1:dL q1 s1.panes 256)(c2:dL q2 s2.panes 256):
  Calls prog 16 #[.agg #[.int .i64 m1,TR],.agg #[.int .i64 m2,T9]] w (bE w (.bool (decide (s1=s2)))):=by
 obtain⟨p1,l1,e1,a1,b1,d1⟩:=h1;obtain⟨p2,l2,e2,a2,b2,d2⟩:=h2;have f1:m1=s1.mark/\TR=p1:=by simpa using e1
 have f2:m2=s2.mark/\T9=p2:=by simpa using e2
 obtain⟨rfl,rfl⟩:=f1;obtain⟨rfl,rfl⟩:=f2;have h:=Mo w s1.mark TR l1 s2.mark T9 l2 a1 a2 b1 b2 (Fp c1 d1) (Fp c2 d2);rw[<-d1,<-d2]at h;exact h
theorem yY {w:World} {v1 v2:Value} {o1 o2:List dB}(h1:fw w v1 o1)(h2:fw w v2 o2)(f1:jr o1)(f2:jr o2)(n1:o1.length<=1000000)(n2:o2.length<=1000000):
  Calls prog 13 #[v1,v2] w (bE w (.bool (decide (o1=o2)))):=by
 obtain⟨a1,c1,l1,rfl,_,e1,g1,rfl⟩:=h1;obtain⟨a2,c2,l2,rfl,_,e2,g2,rfl⟩:=h2;rw[bfz]at n1 n2;exact Cr w a1 a2 c1 c2 l1 l2 e1 e2 (λx hx=>⟨g1 x hx,f1 x.o (List.mem_map.2 ⟨x,hx,rfl⟩)⟩) (λx hx=>⟨g2 x hx,f2 x.o (List.mem_map.2 ⟨x,hx,rfl⟩)⟩) n1 n2
def runT(q:bz):di->List dB->Int->List bN->kC
 | s,o,n,[]=>⟨s,o,n,0⟩
 | s,o,n,x::l=>if (stepT q s x).2.2=0 then runT q (stepT q s x).1 (o++(stepT q s x).2.1) (n+1) l else ⟨s,o,n,(stepT q s x).2.2⟩
theorem y7 {q:bz}(hq:q.bB=true)(s:di)(x:bN):(stepT q s x).2.2=(dR q s x).2.2/\((dR q s x).2.2=0->stepT q s x=dR q s x):=by
 unfold stepT Hq;rw[if_pos hq];by_cases h:(dR q s x).2.2=0
 ·rw[if_pos h];exact⟨rfl,λ_=>rfl⟩
 rw[if_neg h];exact⟨rfl,λh'=>absurd h' h⟩
theorem Kv {q:bz} {s:di} {x:bN}(h:(stepT q s x).2.2=0):q.bB=true/\(dR q s x).2.2=0/\stepT q s x=dR q s x:=by
 have hq:q.bB=true:=by
  by_cases hq:q.bB=true
  ·exact hq
  unfold stepT at h;rw[if_neg hq]at h;cases h
 obtain⟨h1,h2⟩:=y7 hq s x;rw[h1]at h;exact⟨hq,h,h2 h⟩
theorem runT_eq {q:bz}(hq:q.bB=true):∀(l:List bN) (s:di) (o:List dB) (n:Int),runT q s o n l=vP q s o n l
 | [],_,_,_=>rfl
 | x::l,s,o,n=>by
  obtain⟨h1,h2⟩:=y7 hq s x;rw[Dq];unfold runT;by_cases h:(dR q s x).2.2=0
  ·rw[if_pos (by rw[h1];exact h),if_pos h,h2 h]
   exact runT_eq hq l _ _ _
  rw[if_neg (by rw[h1];exact h),if_neg h,h1]
theorem Pv(q:bz)(l:List bN):runT q xU [] 0 l=qB q xU l:=by
 unfold qB;by_cases hq:q.bB=true
 ·rw[if_neg (by rw[Bl hq];simp),runT_eq hq]
 have hr:fQ q xU=false:=by
  rw[Bool.eq_false_iff];intro h;exact hq (kI.1 h).1
 cases l with
 | nil=>rw[if_neg (by simp)];rfl
 | cons x l=>
  rw[if_pos ⟨by simp,hr⟩]
  unfold runT stepT;rw[if_neg hq,if_neg (by simp)]
def Qp(w:World)(qb sb rb:Nat)(q:bz)(its:List bN)(r0:kC)(s10 UB:Value)(wr:World):Prop:=
 ∃i:Nat,i<=its.length/\UB=.int .i64 (i:Int)/\∃m pv l ol,r0=runT q ⟨m,l.map bn.p⟩ (ol.map bM.o) (i:Int) (its.drop i)/\(q.bB=true->fQ q ⟨m,l.map bn.p⟩=true)/\ol.length<=256*i/\F3 w qb sb rb q m pv l s10 ol wr
theorem K8 {q:bz} {s:di} {o:List dB} {n:Int} {its:List bN} {i:Nat} {x:bN} {r0:kC}(h:r0=runT q s o n (its.drop i))(hx:its[i]? =some x):
  r0=if (stepT q s x).2.2=0 then runT q (stepT q s x).1 (o++(stepT q s x).2.1) (n+1) (its.drop (i+1))else ⟨s,o,n,(stepT q s x).2.2⟩:=by
 rw[h,List.drop_eq_getElem?_toList_append,hx];rfl
theorem Pt {q:bz} {s:di} {o:List dB} {n:Int} {its:List bN} {i:Nat} {r0:kC}(h:r0=runT q s o n (its.drop i))(hi:¬i<its.length):r0=⟨s,o,n,0⟩:=by
 rw[h,List.drop_eq_nil_of_le (by omega)]
 rfl
theorem MB(w:World)(q:bz)(m:Int)(pv:Value)(l:List bn)(ia:Option Addr)(ic:Nat)(its:List bN)(hA:bO w pv l)(hG:∀y∈l,bR w y)(hR:q.bB=true->fQ q ⟨m,l.map bn.p⟩=true)(hI:gq w ia its)(hk:∀x∈its,x.key.length<=1000000)(hn:its.length<=3000):
  Calls prog 10 #[.agg q.cells,.agg #[.int .i64 m,pv],.slice ia its.length ic] w (rU w (runT q ⟨m,l.map bn.p⟩ [] 0 its)):=by
 have mixed:prog.follows .mixedOrders=true:=by kernel_rfl
 obtain⟨P,hP⟩:=Nm (rU w (runT q ⟨m,l.map bn.p⟩ [] 0 its));rw[<-hP];obtain⟨r0,hr0⟩:=Nm (runT q ⟨m,l.map bn.p⟩ [] 0 its:kC);have Sl:Hid (∀wz sv ov,gW wz sv r0.s->fw wz ov r0.outs->Bw w wz->P (.returned (.tuple #[sv,ov,.int .i64 r0.n,.int .i64 r0.e])) wz):=Lh (λwz sv ov hS hO hB=>by
  rw[hP,<-hr0];exact⟨_,_,rfl,hS,hO,hB⟩)
 have TA:Hid (∀w' m' pv' l' (x:bN),bO w' pv' l'->(∀y∈l',bR w' y)->(q.bB=true->fQ q ⟨m',l'.map bn.p⟩=true)->x.key.length<=1000000->Calls prog 22 #[.agg q.cells,.agg #[.int .i64 m',pv'],.agg x.cells] w' (jf w' (stepT q ⟨m',l'.map bn.p⟩ x).1 (stepT q ⟨m',l'.map bn.p⟩ x).2.1 (stepT q ⟨m',l'.map bn.p⟩ x).2.2)):=Lh (λw' m' pv' l' x h1 h2 h3 h4=>Kb w' q m' pv' x l' h1 h2 h3 h4);obtain⟨sa,sc,hpv,hz1,hz2⟩:=hA.form;clear hz1 hz2;obtain⟨N,hN⟩:=Nm (its.length);have HA:Hid (gq w ia its/\(∀x∈its,x.key.length<=1000000)/\N=its.length/\r0=runT q ⟨m,l.map bn.p⟩ [] 0 its/\(q.bB=true->fQ q ⟨m,l.map bn.p⟩=true)):=Lh ⟨hI,hk,hN,hr0,hR⟩;rw[<-hN]at hn ⊢;obtain⟨w1,hw1⟩:=Nm (((w.alloc (.cells q.cells 23)).alloc (.cells #[.int .i64 m,pv] 29)).alloc (.cells #[.int .i64 0,.slice none 0 0] 29));obtain⟨qb,Sm⟩:=Nm (w.heap.size);obtain⟨sb,hsb⟩:=Nm (w.heap.size+1);obtain⟨rb,hrb⟩:=Nm (w.heap.size+2);have H1:Hid (dn w1 qb q/\bT w1 sb m pv/\bT w1 rb 0 bS/\Bw w w1/\w1.heap.size=w.heap.size+3):=by rw[hw1,Sm,hsb,hrb];exact Lh (vZ w q m pv)
 have SA:Hid (w.heap.size<=qb/\qb<sb/\sb<rb/\w1.heap.size=rb+1):=Lh ⟨by omega,by omega,by omega,by have:=H1.out.2.2.2.2;omega⟩
 have HI1:Hid (F3 w qb sb rb q m pv l bS [] w1):=by
  obtain⟨k1,k2,k3,k4,_⟩:=H1.out;exact Lh ⟨k1,k2,k3,hA.below k4,λy hy=>(hG y hy).below k4,fe.nil _ _,λy hy=>by simp at hy,k4⟩
 clear hP hA hG hR hI hk hr0 H1 hN;obtain⟨Q,hQ⟩:=Nm q;rw[<-hQ]at HI1 HA;have Vl:Hid (∀w' m' pv' l' (x:bN),bO w' pv' l'->(∀y∈l',bR w' y)->(Q.bB=true->fQ Q ⟨m',l'.map bn.p⟩=true)->x.key.length<=1000000->Calls prog 22 #[.agg q.cells,.agg #[.int .i64 m',pv'],.agg x.cells] w' (jf w' (stepT Q ⟨m',l'.map bn.p⟩ x).1 (stepT Q ⟨m',l'.map bn.p⟩ x).2.1 (stepT Q ⟨m',l'.map bn.p⟩ x).2.2)):=by rw[hQ];exact TA
 clear TA;obtain⟨kind,size,slide,late,agg,kq⟩:=q;have SV:Hid (∀w',dn w' qb Q->D6 w' qb kind size slide late agg kq):=by rw[hQ];exact Lh (λw' h=>h.d6)
 clear hQ;obtain⟨n,hnl⟩:=Nm (l.length);rw[<-hnl]at hpv;clear hnl;subst hpv;unfold bz.cells at hw1 Vl ⊢;simp only at hw1 Vl ⊢;have hs1:(w.alloc (.cells #[.int .i64 kind,.int .i64 size,.int .i64 slide,.int .i64 late,.int .i64 agg,.int .i64 kq] 23)).heap.size=w.heap.size+1:=bq w _;have hs2:((w.alloc (.cells #[.int .i64 kind,.int .i64 size,.int .i64 slide,.int .i64 late,.int .i64 agg,.int .i64 kq] 23)).alloc (.cells #[.int .i64 m,.slice sa n sc] 29)).heap.size=w.heap.size+2:=by rw[bq,bq]
 go_enter func10,ntmps10;go_upto_region 1 with(fail);rw[<-hw1,<-hrb,<-hsb,<-Sm];clear hw1 hrb hsb Sm hs1 hs2;go_wp2_with(fail);go_loopw[10,18] (Qp w qb sb rb Q its r0) (λ_ i _=>N-(intOf i).toNat)
 case atStart=>
  refine⟨0,bgi _,rfl,m,_,l,[],HA.out.2.2.2.1,HA.out.2.2.2.2,bfx _,HI1.out⟩
 case round=>
  obtain⟨i,hi,rfl,m1,TR,l1,ol,hr1,hok,hol,hI⟩:=hrel;rw[<-HA.out.2.2.1]at hi;obtain⟨sa1,TT,rfl,hz1,hz2⟩:=hI.2.2.2.1.form;obtain⟨oa,oc,hov,hz3,Az⟩:=hI.2.2.2.2.2.1.form;obtain⟨ov,WZ⟩:=Nm u10;rw[<-WZ]at hI hov;rw[<-WZ];have HO:=Lh (bfy hr1 (bfy hok (bfy hol hI)));clear hz1 hz2 hz3 Az hr1 hok hol hI hov WZ;obtain⟨VS,eP⟩:=Nm (l1.length);rw[<-eP]at HO;have HNl:=Lh eP;clear eP;by_cases hlt:i<N
  ·have hi0:(0:Int)<=(i:Int)/\(i:Int)<(N:Int):=by omega
   obtain⟨x,pa,Tu,hx,hsa,c0,c1,c2,c3⟩:=(HA.out.1.below HO.out.2.2.2.2.2.2.2.2.2.2).get (t:=i) (by rw[<-HA.out.2.2.1];exact hlt)
   subst hsa;have HX:Hid (its[i]? =some x/\i<N/\x.key.length<=1000000):=Lh ⟨hx,hlt,HA.out.2.1 x (bf3 hx)⟩;clear hx hi hlt;obtain⟨x_,hxe⟩:=Nm (x:bN);rw[<-hxe]at HX;obtain⟨TB,xk,xt,xv⟩:=x;simp only at c0 c1 c2 c3;go_upto_region 4 with(fail);refine bg4 ?_
   iterate 15 go_step
   refine bg6 rfl _ _ _ rfl wr.heap.size (bN.mk TB xk xt xv).cells rfl rfl 42 #[.int .i64 0,.string ⟨#[]⟩,.int .i64 0,.int .i64 0] (bg5 wr _) tL rfl (wN _) ?_;obtain⟨wx,hwx⟩:=Nm ((wr.alloc (Obj.cells #[.int .i64 0,.string ⟨#[]⟩,.int .i64 0,.int .i64 0] 42)).setRow wr.heap.size (bN.mk TB xk xt xv).cells);obtain⟨xb,hxb⟩:=Nm (wr.heap.size);have Sn:Hid (jy wx xb x_/\F3 w qb sb rb Q m1 (.slice sa1 VS TT) l1 ov ol wx):=by
    have k2:Bw wr wx:=by
     rw[hwx];exact((Below.refl _ wr).alloc (bfx _) _).trans ⟨rfl,rfl,rfl,by simp[World.setRow],λk hk=>setRow_other _ _ _ _ (by omega)⟩
    refine Lh ⟨?_,HO.out.2.2.2.below k2⟩;rw[hwx,hxb,hxe];exact setRow_heap _ _ _ _ _ _ (bg5 wr _)
   rw[<-hwx,<-hxb];clear hwx hxb c0 c1 c2 c3;have Vu:Hid (∀w',jy w' xb x_->DX w' xb TB xk xt xv):=by rw[hxe];exact Lh (λw' h=>h.dx)
   have uw:Hid (Calls prog 22 #[.agg #[.int .i64 kind,.int .i64 size,.int .i64 slide,.int .i64 late,.int .i64 agg,.int .i64 kq],.agg #[.int .i64 m1,.slice sa1 VS TT],.agg #[.int .i64 TB,Sv xk,.int .i64 xt,.int .i64 xv]] wx (jf wx (stepT Q ⟨m1,l1.map bn.p⟩ x_).1 (stepT Q ⟨m1,l1.map bn.p⟩ x_).2.1 (stepT Q ⟨m1,l1.map bn.p⟩ x_).2.2)):=by
    have h:=Vl.out wx m1 _ l1 x_ Sn.out.2.2.2.2.1 Sn.out.2.2.2.2.2.1 HO.out.2.1 HX.out.2.2;rw[hxe]at h ⊢;exact Lh h
   clear hxe;obtain⟨d0,d1,d2,d3,d4,d5⟩:=SV.out wx Sn.out.2.1;obtain⟨e0,e1⟩:=Sn.out.2.2.1.d2;obtain⟨x0,x1,x2,x3⟩:=Vu.out wx Sn.out.1;go_upto_region 5 with(fail);refine bg4 ?_
   iterate 9 go_step
   refine wpList_plain rfl λK' hK'=>?_;go_step;refine uw.out.mono ?_;rintro e w5 ⟨sv,ov2,rfl,⟨T9,l2,rfl,hP1,hP2,hP3⟩,⟨XI,oo,TH,rfl,aY,hO2,hO3,hO4⟩,hB⟩;refine hK' _ _ ?_;clear hK' d0 d1 d2 d3 d4 d5 e0 e1 x0 x1 x2 x3;obtain⟨S2,hS2⟩:=Nm (stepT Q ⟨m1,l1.map bn.p⟩ x_);rw[<-hS2]at hP3 hO4;rw[<-hS2];obtain⟨m2,hm2⟩:=Nm (S2.1.mark);obtain⟨er,her⟩:=Nm (S2.2.2);rw[<-hm2,<-her];have HS:Hid (er=(stepT Q ⟨m1,l1.map bn.p⟩ x_).2.2/\(⟨m2,l2.map bn.p⟩:di)=(stepT Q ⟨m1,l1.map bn.p⟩ x_).1/\TH.map bM.o=(stepT Q ⟨m1,l1.map bn.p⟩ x_).2.1):=by
    rw[<-hS2];exact Lh ⟨her,by rw[hm2,<-hP3],hO4.symm⟩
   obtain⟨XT,eQ⟩:=Nm (l2.length);obtain⟨no2,eT⟩:=Nm (TH.length);obtain⟨TS,TU,rfl,hz1,hz2⟩:=hP1.form;rw[<-eQ]at hP1;rw[<-eQ,<-eT];have H5:Hid (F3 w qb sb rb Q m1 (.slice sa1 VS TT) l1 ov ol w5/\bO w5 (.slice TS XT TU) l2/\(∀y∈l2,bR w5 y)/\gH w5 XI TH/\(∀y∈TH,dO w5 y)/\no2=TH.length):=Lh ⟨Sn.out.2.below hB,hP1,hP2,hO2,hO3,eT⟩;clear hP1 hP2 hP3 aY hO2 hO3 hO4 hB hS2 hm2 her hz1 hz2 eQ eT Sn uw
   iterate 15 go_step
   refine bg6 rfl _ _ _ rfl w5.heap.size #[.int .i64 m2,.slice TS XT TU] rfl rfl 29 #[.int .i64 0,bS] (bg5 w5 _) bF rfl (cB rfl) ?_;obtain⟨w6,SN⟩:=Nm ((w5.alloc (Obj.cells #[.int .i64 0,.slice none 0 0] 29)).setRow w5.heap.size #[.int .i64 m2,.slice TS XT TU]);obtain⟨tb,htb⟩:=Nm (w5.heap.size);have H6:Hid (F3 w qb sb rb Q m1 (.slice sa1 VS TT) l1 ov ol w6/\bO w6 (.slice TS XT TU) l2/\(∀y∈l2,bR w6 y)/\gH w6 XI TH/\(∀y∈TH,dO w6 y)/\bT w6 tb m2 (.slice TS XT TU)/\(rb<tb/\ov.ownBlock≠some tb)):=by
    obtain⟨k1,k2⟩:=jH w5 m2 (.slice TS XT TU);have e:w6=(w5.alloc (Obj.cells #[.int .i64 0,bS] 29)).setRow w5.heap.size #[.int .i64 m2,.slice TS XT TU]:=SN;rw[<-e,<-htb]at k1;rw[<-e]at k2;obtain⟨j1,j2,j3,j4,j5,_⟩:=H5.out;exact Lh ⟨j1.below k2,j2.below k2,λy hy=>(j3 y hy).below k2,j4.below k2,λy hy=>(j5 y hy).below k2,k1,by rw[htb];exact j1.2.2.1.lt,λe=>by have:=j1.2.2.2.2.2.1.lt e;omega⟩
   have SF:=Lh H5.out.2.2.2.2.2;rw[<-SN,<-htb];clear SN htb H5;by_cases he:er=0
   ·subst he;obtain⟨OZ,hse,hst⟩:=Kv HS.out.1.symm;have IY:Hid (Q.bB=true/\fQ Q ⟨m2,l2.map bn.p⟩=true/\TH.length<=256):=by
     have hr:=HO.out.2.1 OZ;refine Lh ⟨OZ,?_,?_⟩
     ·rw[HS.out.2.1,hst];exact Ht HX.out.2.2 hr hse
     have h:=vS (q:=Q) (s:=⟨m1,l1.map bn.p⟩) (x:=x_) (n:=256) (kI.1 hr).2.2.1 (by decide)
     rw[<-hst,<-HS.out.2.2,bfz]at h;exact h
    clear OZ hse hst;obtain⟨f0,f1⟩:=H6.out.2.2.2.2.2.1.d2;go_upto_region 8 with(fail);refine bg4 ?_
    iterate 3 go_step
    refine bg6 rfl _ _ _ rfl sb #[.int .i64 m2,.slice TS XT TU] rfl rfl 29 #[.int .i64 m1,.slice sa1 VS TT] H6.out.1.2.1 bF rfl (cB rfl) ?_;obtain⟨w7,hw7⟩:=Nm (w6.setRow sb #[.int .i64 m2,.slice TS XT TU]);have H7:Hid (dn w7 qb Q/\bT w7 sb m2 (.slice TS XT TU)/\bT w7 rb 0 bS/\bO w7 (.slice TS XT TU) l2/\(∀y∈l2,bR w7 y)/\(fe w7 (rb+1) ov ol/\∀y∈ol,dO w7 y)/\Bw w w7/\gH w7 XI TH/\(∀y∈TH,dO w7 y)):=by
     have hg:w6.grownBy w7 (some sb):=by rw[hw7];exact bC _ _ _
     obtain⟨⟨j1,j2,j3,j4,j5,j6,j7,j8⟩,k1,k2,k3,k4,k5,k6,k7⟩:=H6.out;have hb:=SA.out;exact Lh ⟨dz hg j1 (by simp;omega),by rw[hw7];exact j2.reset m2 _,dz hg j3 (by simp;omega),k1.store j2 hg,λy hy=>(k2 y hy).kJ j2 hg,lg (by omega) j2 hg ⟨j6,j7⟩,j8.trans (bG hg (by omega) j8.size),k3.store j2 hg,λy hy=>bA.grown (k4 y hy) hg (λ_ _ _ e hne=>bA.apart (k4 y hy) e hne j2 (by decide))⟩
    rw[<-hw7];clear hw7 f0 f1 H6;go_upto_region 9 with(fail);refine bg4 ?_
    iterate 6 go_step
    refine wpList_plain rfl λK' hK'=>?_;refine rF (.tmp 38) (.tmp 39) rfl (rb+1) ov ol TH rfl H7.out.2.2.2.2.2.1.1 XI oo no2 SF.out rfl H7.out.2.2.2.2.2.2.2.1 (by have:=HO.out.2.2.1;have:=HX.out.2.1;have:=IY.out.2.2;omega) (by have:=H7.out.2.2.1.lt;omega) ?_
    intro v8 w8 g1 g2 g3;refine hK' _ _ ?_;have HZ:Hid (F3 w qb sb rb Q m2 (.slice TS XT TU) l2 v8 (ol++TH) w8):=by
     obtain⟨j1,j2,j3,j4,j5,⟨j6,j7⟩,j8,k1,k2⟩:=H7.out;have hb:=SA.out;have hne:∀b,b<=rb->some b≠ov.ownBlock:=λb hb e=>by have:=j6.lt e.symm;omega
     refine Lh ⟨dz g2 j1 (hne qb (by omega)),dz g2 j2 (hne sb (by omega)),dz g2 j3 (hne rb (by omega)),j4.ww j6 g2,λy hy=>⟨bA.ww (j5 y hy).1 j6 g2,(j5 y hy).2⟩,g1,λy hy=>?_,j8.trans ⟨g2.os,g2.tape,g2.output,g2.size,λk hk=>g2.block k (by have:=j8.size;omega) (hne k (by omega))⟩⟩
     rcases List.mem_append.1 hy with hy | hy
     ·exact bA.ww (j7 y hy) j6 g2
     exact bA.ww (k2 y hy) j6 g2
    have HRl:Hid (Qp w qb sb rb Q its r0 v8 (.int .i64 ((i:Int)+1)) w8):=by
     refine Lh ⟨i+1,by rw[<-HA.out.2.2.1];exact HX.out.2.1,by go_num,m2,_,l2,ol++TH,?_,λ_=>IY.out.2.1,by rw[bft];have:=HO.out.2.2.1;have:=IY.out.2.2;omega,HZ.out⟩
     have h:=K8 HO.out.1 HX.out.1;rw[if_pos HS.out.1.symm,<-HS.out.2.1,<-HS.out.2.2]at h;rw[h,bgl];rfl
    have SX:=Lh HX.out.2.1;clear g1 g2 g3 hK' H7;go_wp2_with(fail);go_roundw
    case rel=>exact HRl.out
    case measure=>have:=SX.out;simp[intOf];omega
   have he':(er==0)=false:=by simpa using he
   have he'':(er !=0)=true:=by simpa using he
   have HE:Hid (r0=⟨⟨m1,l1.map bn.p⟩,ol.map bM.o,(i:Int),er⟩):=by
    have h:=K8 HO.out.1 HX.out.1;rw[if_neg (by rw[<-HS.out.1];exact he),<-HS.out.1]at h
    exact Lh h
   obtain⟨e0,e1⟩:=H6.out.1.2.1.d2;go_upto_region 7 with(fail);refine bg4 ?_
   iterate 12 go_step
   refine bg6 rfl _ _ _ rfl rb #[.int .i64 m1,.slice sa1 VS TT] rfl rfl 29 #[.int .i64 0,bS] H6.out.1.2.2.1 bF rfl (cB rfl) ?_;obtain⟨wz,hwz⟩:=Nm (w6.setRow rb #[.int .i64 m1,.slice sa1 VS TT]);have HZ:Hid (bT wz rb m1 (.slice sa1 VS TT)/\P (.returned (.tuple #[.agg #[.int .i64 m1,.slice sa1 VS TT],ov,.int .i64 (i:Int),.int .i64 er])) wz):=by
    have hg:w6.grownBy wz (some rb):=by rw[hwz];exact bC _ _ _
    obtain⟨j1,j2,j3,j4,j5,j6,j7,j8⟩:=H6.out.1;have hb:=SA.out;have S9:=lg (B:=rb+1) (by omega) j3 hg ⟨j6,j7⟩
    obtain⟨Vx,Vy,hv',hc',Ta⟩:=S9.1.form;have hS:gW wz (.agg #[.int .i64 m1,.slice sa1 VS TT]) ⟨m1,l1.map bn.p⟩:=⟨_,l1,rfl,j4.store j3 hg,λy hy=>(j5 y hy).kJ j3 hg,rfl⟩;have hO:fw wz ov (ol.map bM.o):=⟨Vx,Vy,ol,hv',hc',Ta,S9.2,rfl⟩;have TW:=j8.trans (bG hg (by omega) j8.size)
    have h:=Sl.out wz _ ov (by rw[HE.out];exact hS) (by rw[HE.out];exact hO) TW
    rw[HE.out]at h;exact Lh ⟨by rw[hwz];exact j3.reset m1 _,h⟩
   rw[<-hwz];clear hwz e0 e1;go_wp2_with(fail);exact bodyPost_ret (v:=.tuple #[.agg #[.int .i64 m1,.slice sa1 VS TT],ov,.int .i64 (i:Int),.int .i64 er]) ((ja (p:=6) (s:=7) (u:=8) (t3:=9) (ty:=29) rfl _ _ rb 29 #[.int .i64 m1,.slice sa1 VS TT] (0,0) _ rfl HZ.out.1 underlying29 rfl bF).trans rfl) rfl HZ.out.2
  obtain rfl:i=N:=by omega
  have HE:=Lh (Pt HO.out.1 (by rw[<-HA.out.2.2.1];omega))
  clear hlt hi;obtain⟨e0,e1⟩:=HO.out.2.2.2.2.1.d2;go_upto_region 11 with(fail);refine bg4 ?_
  iterate 12 go_step
  refine bg6 rfl _ _ _ rfl rb #[.int .i64 m1,.slice sa1 VS TT] rfl rfl 29 #[.int .i64 0,bS] HO.out.2.2.2.2.2.1 bF rfl (cB rfl) ?_;obtain⟨wz,hwz⟩:=Nm (wr.setRow rb #[.int .i64 m1,.slice sa1 VS TT]);have HZ:Hid (bT wz rb m1 (.slice sa1 VS TT)/\P (.returned (.tuple #[.agg #[.int .i64 m1,.slice sa1 VS TT],ov,.int .i64 (i:Int),.int .i64 0])) wz):=by
   have hg:wr.grownBy wz (some rb):=by rw[hwz];exact bC _ _ _
   obtain⟨j1,j2,j3,j4,j5,j6,j7,j8⟩:=HO.out.2.2.2;have hb:=SA.out;have S9:=lg (B:=rb+1) (by omega) j3 hg ⟨j6,j7⟩
   obtain⟨Vx,Vy,hv',hc',Ta⟩:=S9.1.form;have hS:gW wz (.agg #[.int .i64 m1,.slice sa1 VS TT]) ⟨m1,l1.map bn.p⟩:=⟨_,l1,rfl,j4.store j3 hg,λy hy=>(j5 y hy).kJ j3 hg,rfl⟩;have hO:fw wz ov (ol.map bM.o):=⟨Vx,Vy,ol,hv',hc',Ta,S9.2,rfl⟩;have TW:=j8.trans (bG hg (by omega) j8.size)
   have h:=Sl.out wz _ ov (by rw[HE.out];exact hS) (by rw[HE.out];exact hO) TW
   rw[HE.out]at h;exact Lh ⟨by rw[hwz];exact j3.reset m1 _,h⟩
  rw[<-hwz];clear hwz e0 e1;go_wp2_with(fail);exact bodyPost_ret (v:=.tuple #[.agg #[.int .i64 m1,.slice sa1 VS TT],ov,.int .i64 (i:Int),.int .i64 0]) ((ja (p:=6) (s:=7) (u:=8) (t3:=9) (ty:=29) rfl _ _ rb 29 #[.int .i64 m1,.slice sa1 VS TT] (0,0) _ rfl HZ.out.1 underlying29 rfl bF).trans rfl) rfl HZ.out.2
def kF:List (BitVec 8):=[97]
def qS:bz:=⟨1,10,0,0,2,0⟩
def eS:bN:=⟨1,kF,3,5⟩
def mS:bN:=⟨2,[],10,0⟩
def wF:bg:=⟨kF,0,10⟩
def GN:dB:=⟨false,kz,wF,1,[10]⟩
def GQ:dB:=⟨true,eS,bX,0,[]⟩
def sS:di:=⟨10,[]⟩
theorem MG:qB qS xU [eS,eS,mS,eS]=⟨sS,[GN,GQ],4,0⟩:=by kernel_rfl
theorem Py:qB qS sS [kz]=⟨sS,[],0,2⟩:=by kernel_rfl
theorem G6:fQ qS sS=true:=by kernel_rfl
theorem Jd {o:Oper} {a:Act} {w:World} {K:Act->World->Prop} {Q:Exit->Act->World->Prop}(y1 y2 y3 y4:Operand)(ho:o.op=.buildSlice 24 4 #[(0,y1),(1,y2),(2,y3),(3,y4)])(x1 x2 x3 x4:bN)(h1:a.eval y1=.agg x1.cells)(h2:a.eval y2=.agg x2.cells)(h3:a.eval y3=.agg x3.cells)(h4:a.eval y4=.agg x4.cells)
  (h:K (a.put o.dst (.slice (some ⟨w.heap.size,0,none⟩) 4 4)) (w.alloc (.cells (x1.cells++x2.cells++x3.cells++x4.cells) 42))):o.wp prog a w K Q:=by
 have hF:Instr.fill (λi=>some (i*4,4)) ((Array.range (4*4)).map ((Value.agg #[.int .i64 0,.string ⟨#[]⟩,.int .i64 0,.int .i64 0]).cells[· % (Value.agg #[.int .i64 0,.string ⟨#[]⟩,.int .i64 0,.int .i64 0]).cells.size]!)) [(0,.agg x1.cells),(1,.agg x2.cells),(2,.agg x3.cells),(3,.agg x4.cells)]=some (x1.cells++x2.cells++x3.cells++x4.cells):=by kernel_rfl
 obtain⟨i,hi,hz0,hz1,hz2⟩:=info_parts yL;refine wp_buildSlice 24 42 4 _ ho (x1.cells++x2.cells++x3.cells++x4.cells) i _ underlying24 hi hz0 (by rw[hz1];decide) (by rw[hz1];decide) ?_ h
 rw[hz1];simp only[bgb,bgc,bge,h1,h2,h3,h4];exact hF
theorem gq.four {w:World} {g:Nat} {x1 x2 x3 x4:bN}(h:w.heap[g]? =some (.cells (x1.cells++x2.cells++x3.cells++x4.cells) 42 (0,0))):gq w (some ⟨g,0,none⟩) [x1,x2,x3,x4]:=by
 refine .inr ⟨g,0,rfl,λi u hu j v hv=>?_⟩;have hj:j<4:=by
  have:=(Array.getElem?_eq_some_iff.1 hv).1;simpa[bN.cells]using this
 have e:x1.cells++x2.cells++x3.cells++x4.cells=#[.int .i64 x1.kind,Sv x1.key,.int .i64 x1.time,.int .i64 x1.value,.int .i64 x2.kind,Sv x2.key,.int .i64 x2.time,.int .i64 x2.value,.int .i64 x3.kind,Sv x3.key,.int .i64 x3.time,.int .i64 x3.value,.int .i64 x4.kind,Sv x4.key,.int .i64 x4.time,.int .i64 x4.value]:=rfl;rw[cell_of_row _ _ _ _ _ _ h,e]
 match i,hu with
 | 0,hu=>
  simp only[bgp,bf5]at hu;subst hu
  match j,hv with
  | 0,hv=>exact hv
  | 1,hv=>exact hv
  | 2,hv=>exact hv
  | 3,hv=>exact hv
  | j+4,_=>omega
 | 1,hu=>
  simp only[List.getElem?_cons_succ,bgp,bf5]at hu;subst hu
  match j,hv with
  | 0,hv=>exact hv
  | 1,hv=>exact hv
  | 2,hv=>exact hv
  | 3,hv=>exact hv
  | j+4,_=>omega
 | 2,hu=>
  simp only[List.getElem?_cons_succ,bgp,bf5]at hu;subst hu
  match j,hv with
  | 0,hv=>exact hv
  | 1,hv=>exact hv
  | 2,hv=>exact hv
  | 3,hv=>exact hv
  | j+4,_=>omega
 | 3,hu=>
  simp only[List.getElem?_cons_succ,bgp,bf5]at hu;subst hu
  match j,hv with
  | 0,hv=>exact hv
  | 1,hv=>exact hv
  | 2,hv=>exact hv
  | 3,hv=>exact hv
  | j+4,_=>omega
 | i+4,hu=>simp at hu
theorem JM {w w':World} {g b:Nat} {x1 x2 x3 x4:bN}(h:gq w (some ⟨g,0,none⟩) [x1,x2,x3,x4])(hb:bT w b 0 bS)(hg:w.grownBy w' (some b)):gq w' (some ⟨g,0,none⟩) [x1,x2,x3,x4]:=by
 rcases h with h | ⟨b',o,ha,h⟩
 ·cases h
 cases ha
 have hc:=h 0 x1 rfl 1 _ rfl;have hlt:=block_lt_of_cell hc;have hne:g≠b:=by
  rintro rfl;have e:some bS=some (Sv x1.key):=hb.d2.2.symm.trans hc;simp[Sv,bS]at e
 have hbl:=hg.block g hlt (by simpa using hne)
 refine .inr ⟨g,0,rfl,λi x hx j v hv=>?_⟩;rw[<-h i x hx j v hv];unfold World.cell?;simp only[hbl]
theorem gW.empty {w:World} {v:Value} {m:Int}(h:gW w v ⟨m,[]⟩):∃a c,v=.agg #[.int .i64 m,.slice a 0 c]:=by
 obtain⟨pv,l,rfl,⟨a,c,rfl,_⟩,_,he⟩:=h;have:l=[]:=List.map_eq_nil_iff.1 he.symm;subst this;exact⟨a,c,rfl⟩
theorem zT {w:World} {v:Value}(h:fw w v [GN,GQ]):∃b o c vb vo vc tz,v=.slice (some ⟨b,o,none⟩) 2 c/\
  (w.cell? ⟨b,o+5,none⟩=some (Sv kF)/\w.cell? ⟨b,o+6,none⟩=some (.int .i64 0)/\w.cell? ⟨b,o+7,none⟩=some (.int .i64 10)/\w.cell? ⟨b,o+8,none⟩=some (.int .i64 1)/\w.cell? ⟨b,o+9,none⟩=some (.slice (some ⟨vb,vo,none⟩) 1 vc)/\w.cell? ⟨vb,vo,none⟩=some (.int .i64 10))/\
  w.cell? ⟨b,o+10,none⟩=some (.bool true)/\w.cell? ⟨b,o+11,none⟩=some (.int .i64 1)/\w.cell? ⟨b,o+12,none⟩=some (Sv kF)/\w.cell? ⟨b,o+13,none⟩=some (.int .i64 3)/\w.cell? ⟨b,o+14,none⟩=some (.int .i64 5)/\w.cell? ⟨b,o+19,none⟩=some tz:=by
 obtain⟨a,c,l,rfl,_,hA,hG,he⟩:=h;have hlen:l.length=2:=by
  have:=congrArg List.length he;simpa using this.symm
 obtain⟨x,y,rfl⟩:∃x y,l=[x,y]:=by
  match l,hlen with
  | [x,y],_=>exact⟨x,y,rfl⟩
 ·simp only[bgc,bge,List.cons.injEq,and_true]at he;obtain⟨h1,h2⟩:=he;obtain⟨x',b,o,e1,rfl,c0,c1,c2,c3,c4,c5,c6,c7,c8,c9⟩:=hA.get (t:=0) (by simp)
  simp only[bgp,bf5]at e1;subst e1;obtain⟨y',b',o',e1,e2,d0,d1,d2,d3,d4,d5,d6,d7,d8,d9⟩:=hA.get (t:=1) (by simp)
  simp only[List.getElem?_cons_succ,bgp,bf5]at e1;subst e1;cases e2
  obtain⟨z,vb,vo,vc,e3,e4,c10⟩:=(hG x (by simp)).get (t:=0) (by rw[<-h1];decide)
  rw[<-h1]at c5 c6 c7 c8 e3 e4;rw[<-h2]at d0 d1 d2 d3 d4;cases e3
  rw[e4]at c9;simp only[Nat.zero_mul,Nat.add_zero,Nat.one_mul]at c5 c6 c7 c8 c9 c10 d0 d1 d2 d3 d4 d9;exact⟨b,o,c,vb,vo,vc,y.tv,rfl,⟨c5,c6,c7,c8,c9,c10⟩,d0,d1,d2,d3,d4,d9⟩
theorem JV(w:World):Calls prog 6 #[] w (bE w (.bool true)):=by
 have mixed:prog.follows .mixedOrders=true:=by kernel_rfl
 go_enter func6,ntmps6;go_upto_region 1 with(fail);refine bg4 ?_
 iterate 6 go_step
 refine bg6 rfl _ _ _ rfl w.heap.size qS.cells rfl rfl 23 #[.int .i64 0,.int .i64 0,.int .i64 0,.int .i64 0,.int .i64 0,.int .i64 0] (bg5 w _) J7 rfl (Mv _) ?_;obtain⟨w1,hw1⟩:=Nm ((w.alloc (Obj.cells #[.int .i64 0,.int .i64 0,.int .i64 0,.int .i64 0,.int .i64 0,.int .i64 0] 23)).setRow w.heap.size qS.cells);obtain⟨qb,Sm⟩:=Nm (w.heap.size);have H1:Hid (dn w1 qb qS/\Bw w w1):=by
  obtain⟨k1,k2⟩:=FR w qS;rw[hw1,Sm];exact Lh ⟨k1,k2⟩
 rw[<-hw1,<-Sm];clear hw1 Sm;obtain⟨w2,hw2⟩:=Nm ((w1.alloc (.cells #[.int .i64 0,.string ⟨#[]⟩,.int .i64 0,.int .i64 0] 42)).alloc (.cells #[.int .i64 0,.string ⟨#[]⟩,.int .i64 0,.int .i64 0] 42));obtain⟨eb,hb1⟩:=Nm (w1.heap.size);obtain⟨mb,hb2⟩:=Nm (w1.heap.size+1);have hs1:(w1.alloc (.cells #[.int .i64 0,.string ⟨#[]⟩,.int .i64 0,.int .i64 0] 42)).heap.size=w1.heap.size+1:=bq w1 _;have H2:Hid (jy w2 eb kz/\jy w2 mb kz/\Bw w1 w2/\w1.heap.size=eb/\mb=eb+1):=by
  have k1:=(Below.refl _ w1).alloc (bfx _) (.cells #[.int .i64 0,.string ⟨#[]⟩,.int .i64 0,.int .i64 0] 42);have k2:=(Below.refl _ (w1.alloc (.cells #[.int .i64 0,.string ⟨#[]⟩,.int .i64 0,.int .i64 0] 42))).alloc (bfx _) (.cells #[.int .i64 0,.string ⟨#[]⟩,.int .i64 0,.int .i64 0] 42);refine Lh ⟨?_,?_,?_,hb1.symm,by omega⟩
  ·rw[hw2,hb1];exact jy.below (bg5 w1 _) k2
  ·rw[hw2,hb2,<-hs1];exact bg5 _ _
  rw[hw2];exact Tb k1 k2
 go_upto_region 2 with(fail);refine bg4 ?_
 iterate 12 go_step
 rw[<-hw2,<-hb2,<-hb1];clear hw2 hb1 hb2 hs1;refine bg6 rfl _ _ _ rfl eb eS.cells rfl rfl 42 kz.cells H2.out.1 tL rfl (wN eS) ?_;obtain⟨w3,hw3⟩:=Nm (w2.setRow eb eS.cells);have H3:Hid (jy w3 eb eS/\jy w3 mb kz/\Bw w1 w3/\w1.heap.size=eb/\mb=eb+1):=by
  obtain⟨k1,k2,k3,k4,k5⟩:=H2.out;have hg:=bC w2 eb eS.cells;rw[hw3];exact Lh ⟨setRow_heap w2 eb _ _ _ _ k1,(hg.block mb k2.lt (by simp;omega)).trans k2,k3.trans ⟨hg.os,hg.tape,hg.output,hg.size,λk hk=>hg.block k (by have:=k3.size;omega) (by simp;omega)⟩,k4,k5⟩
 rw[<-hw3];clear hw3 H2;refine bg6 rfl _ _ _ rfl mb mS.cells rfl rfl 42 kz.cells H3.out.2.1 tL rfl (wN mS) ?_;obtain⟨w4,hw4⟩:=Nm (w3.setRow mb mS.cells);have H4:Hid (dn w4 qb qS/\jy w4 eb eS/\jy w4 mb mS/\Bw w w4):=by
  obtain⟨k1,k2,k3,k4,k5⟩:=H3.out;have hg:=bC w3 mb mS.cells;have hB:Bw w1 (w3.setRow mb mS.cells):=k3.trans ⟨hg.os,hg.tape,hg.output,hg.size,λk hk=>hg.block k (by have:=k3.size;omega) (by simp;omega)⟩
  rw[hw4];exact Lh ⟨H1.out.1.below hB,(hg.block eb k1.lt (by simp;omega)).trans k1,setRow_heap w3 mb _ _ _ _ k2,H1.out.2.trans (hB.mono H1.out.2.size)⟩
 rw[<-hw4];clear hw4 H3 H1;have Xz:Hid (∀w',Bw w4 w'->D6 w' qb 1 10 0 0 2 0/\DX w' eb 1 kF 3 5/\DX w' mb 2 [] 10 0):=Lh (λw' h=>⟨(H4.out.1.below h).d6,(H4.out.2.1.below h).dx,(H4.out.2.2.1.below h).dx⟩);have SB:Hid (Bw w4 w4.drew):=(Below.refl _ w4).drew;have Y2:Hid (∀w',Calls prog 9 #[] w' (λe w''=>e=.returned (.agg #[.int .i64 (-1),bS])/\Bw w' w'')):=Lh (λw'=>Bp w');have uq:Hid (∀w' g,gq w' (some ⟨g,0,none⟩) [eS,eS,mS,eS]->Calls prog 8 #[.agg #[.int .i64 1,.int .i64 10,.int .i64 0,.int .i64 0,.int .i64 2,.int .i64 0],.agg #[.int .i64 (-1),.slice none 0 0],.slice (some ⟨g,0,none⟩) 4 4] w' (rU w' ⟨sS,[GN,GQ],4,0⟩)):=by
  refine Lh (λw' g hI=>?_);have h:=Bu w' qS (-1) (.slice none 0 0) [] (some ⟨g,0,none⟩) 4 [eS,eS,mS,eS] (bO.nil _) (λy hy=>by simp at hy) ⟨λx hx=>by simp at hx,by simp⟩ hI (by decide) (by decide)
  rw[show(⟨-1,([]:List bn).map bn.p⟩:di)=xU from rfl,MG]at h;exact h
 obtain⟨VE,hVE⟩:=Nm (Value.agg eS.cells);obtain⟨VM,hVM⟩:=Nm (Value.agg mS.cells);have HV:Hid (VE=Value.agg eS.cells/\VM=Value.agg mS.cells):=Lh ⟨hVE,hVM⟩;clear hVE hVM;go_upto_region 3 with(fail);refine dZ (λi=>([]:List Nat).contains i) (by kernel_rfl) (NoF (NoF [none,none,none,some 0,some 1,none,none,none])) [13,14] (DT ((Value.agg #[.int .i64 1,.int .i64 10,.int .i64 0,.int .i64 0,.int .i64 2,.int .i64 0])::(Value.agg #[.int .i64 (-1),.slice none 0 0])::VE::VE::VM::VE::([undef,undef,undef,undef,undef,.int .i64 4,.int .i64 0,undef,undef,undef,.int .i64 4,.int .i64 0]:List Value)) ((6,λ_ w v=>∃g,v=Value.slice (some ⟨g,0,none⟩) 4 4/\gq w (some ⟨g,0,none⟩) [eS,eS,mS,eS])::Qq 7 w4.heap.size (kC.mk sS [GN,GQ] 4 0))) (λ_ w'=>Bw w4 w') (λw w'=>Bw w w') (lX _ _ (List.forall_mem_cons.2 ⟨λk w w' v hB h=>(by obtain⟨gg,h1,h2⟩:=h;exact⟨gg,h1,h2.below hB⟩),Nv⟩)) (by kernel_rfl) (by kernel_rfl) (by kernel_rfl) SB.out (λ_=>⟨rfl,rfl,rfl,rfl,rfl,rfl,rfl,rfl,rfl,rfl,rfl,rfl,rfl,rfl,rfl,rfl,rfl,rfl,trivial⟩) (λ_ h=>by simp at h) ?_ ?_
 ·refine ⟨?_,?_,?_,?_,?_,?_,?_,?_,?_,?_,?_,?_,?_,?_,?_,?_,?_,?_,trivial⟩<;>(first|(intro _ _ a w' hG Si Sj K hK;guard_hyp w':World)|intro _ a w' hG Si Sj K hK)<;>replace Si:=Lh Si<;>replace Sj:=Lh Sj
  have q1:=FaA Si 1 qb 0;obtain⟨⟨d0,d1,d2,d3,d4,d5⟩,_,_⟩:=Xz.out w' hG;rotate_left
  ·have HS:=Lh (Y2.out w');go_step;refine HS.out.mono ?_;rintro e w3_ ⟨rfl,hB⟩;exact hK _ _ rfl (Tb hG hB) hB
  ·have q2:=FaA Si 2 eb 0;obtain⟨_,⟨d0,d1,d2,d3⟩,_⟩:=Xz.out w' hG;go_step;exact hK _ _ HV.out.1.symm hG Br
  ·have q2:=FaA Si 2 eb 0;obtain⟨_,⟨d0,d1,d2,d3⟩,_⟩:=Xz.out w' hG;go_step;exact hK _ _ HV.out.1.symm hG Br
  ·have q3:=FaA Si 3 mb 0;obtain⟨_,_,⟨d0,d1,d2,d3⟩⟩:=Xz.out w' hG;go_step;exact hK _ _ HV.out.2.symm hG Br
  ·have q2:=FaA Si 2 eb 0;obtain⟨_,⟨d0,d1,d2,d3⟩,_⟩:=Xz.out w' hG;go_step;exact hK _ _ HV.out.1.symm hG Br
  ·obtain ⟨p0,p1,p2,p3,_⟩:=Sj.out;have q0:=(show a.eval (.tmp 17)=VE from p0);have q1:=(show a.eval (.tmp 18)=VE from p1);have q2:=(show a.eval (.tmp 19)=VM from p2);have q3:=(show a.eval (.tmp 20)=VE from p3);clear p0 p1 p2 p3;rw[HV.out.1]at q0;rw[HV.out.1]at q1;rw[HV.out.2]at q2;rw[HV.out.1]at q3;refine Jd (.tmp 17) (.tmp 18) (.tmp 19) (.tmp 20) rfl eS eS mS eS q0 q1 q2 q3 ?_;have hB:Bw w' (w'.alloc (.cells (eS.cells++eS.cells++mS.cells++eS.cells) 42)):=(Below.refl _ w').alloc (bfx _) _;exact hK _ _ ⟨w'.heap.size,rfl,gq.four (bg5 w' _)⟩ (Tb hG hB) hB
  ·obtain ⟨_,_,p2,_⟩:=Sj.out;have Xv:=Ep a 15 (.agg #[.int .i64 1,.int .i64 10,.int .i64 0,.int .i64 0,.int .i64 2,.int .i64 0]) Sj.out.1;have q16:=Ep a 16 (.agg #[.int .i64 (-1),.slice none 0 0]) Sj.out.2.1;obtain⟨gg,hv,hI⟩:=(show ∃g,a.eval (.tmp 21)=Value.slice (some ⟨g,0,none⟩) 4 4/\gq w' (some ⟨g,0,none⟩) [eS,eS,mS,eS]from p2);have VZ:=bf hv;have HS:=Lh (uq.out w' gg hI);clear hv hI;go_step;refine HS.out.mono ?_;rintro e w3_ ⟨sv,ov,rfl,hS,hO,hB⟩;exact hK _ _ ⟨sv,ov,rfl,hS,hO⟩ (Tb hG hB) hB
  ·obtain ⟨p0,_⟩:=Sj.out;obtain⟨sv,ov,hv,hS,hO⟩:=(show zt (kC.mk sS [GN,GQ] 4 0) w' (a.eval (.tmp 22))from p0);have q22:=bf hv;clear hv;go_step;exact hK _ _ ⟨sv,ov,rfl,hS,hO⟩ hG Br
  ·obtain ⟨p0,_⟩:=Sj.out;obtain⟨sv,ov,hv,hS,hO⟩:=(show zt (kC.mk sS [GN,GQ] 4 0) w' (a.eval (.tmp 14))from p0);have Ww:=bf hv;clear hv;go_step;exact hK _ _ hS hG Br
  ·obtain ⟨p0,_⟩:=Sj.out;obtain⟨sv,ov,hv,hS,hO⟩:=(show zt (kC.mk sS [GN,GQ] 4 0) w' (a.eval (.tmp 14))from p0);have Ww:=bf hv;clear hv;go_step;exact hK _ _ hO hG Br
  obtain ⟨p0,_⟩:=Sj.out;obtain⟨sv,ov,hv,hS,hO⟩:=(show zt (kC.mk sS [GN,GQ] 4 0) w' (a.eval (.tmp 14))from p0);have Ww:=bf hv;clear hv;rotate_left;obtain ⟨p0,_⟩:=Sj.out;obtain⟨sv,ov,hv,hS,hO⟩:=(show zt (kC.mk sS [GN,GQ] 4 0) w' (a.eval (.tmp 14))from p0);have Ww:=bf hv;clear hv;rotate_left
  ·go_step;exact hK _ _ ⟨_,rfl,hG.size,by rw[if_pos (by decide)];exact bg5 w' _⟩ (hG.trans (((Below.refl _ w').alloc (bfx _) _).mono hG.size)) (gN _ (List.forall_mem_cons.2 ⟨.inr λd _ h=>(by obtain⟨gg,h1,h2⟩:=h;exact⟨gg,h1,h2.below ((Below.refl _ w').alloc (bfx _) _)⟩),CL ((Below.refl _ w').alloc (bfx _) _)⟩))
  ·obtain ⟨p0,p1,_⟩:=Sj.out;obtain⟨b,hv,WW,hrow⟩:=(show Ro w4.heap.size (kC.mk sS [GN,GQ] 4 0) 1 w' (a.eval (.tmp 4))from p0);obtain⟨pv,l,hv2,uT,OD,OE⟩:=(show gW w' (a.eval (.tmp 23)) sS from p1);rw[if_pos (by decide)]at hrow
   refine wp_store_row _ (.tmp 4) (.tmp 23) rfl b #[.int .i64 sS.mark,pv] hv hv2 _ _ hrow bF rfl (cB uT.one) ?_;have hg:w'.grownBy (w'.setRow b #[.int .i64 sS.mark,pv]) (some b):=bC _ _ _;exact hK _ _ rfl (hG.trans ⟨hg.os,hg.tape,hg.output,hg.size,λk hk=>hg.block k (by have:=hG.size;omega) (by simp;omega)⟩) (gN _ (List.forall_mem_cons.2 ⟨.inr λd _ h=>(by obtain⟨gg,h1,h2⟩:=h;exact⟨gg,h1,JM h2 hrow hg⟩),F8 rfl hv hrow WW hg (hrow.reset _ _) (gW.store ⟨pv,l,rfl,uT,OD,OE⟩ hrow hg)⟩))
  ·obtain ⟨p0,_⟩:=Sj.out;obtain hO:=(show fw w' (a.eval (.tmp 24)) [GN,GQ]from p0);obtain⟨vo,Ay⟩:∃v,a.eval (.tmp 24)=v:=⟨_,rfl⟩;rw[Ay]at hO;have q24:=bf Ay;go_step;exact hK _ _ hO hG Br
  have V3:=Ep a 25 (.int .i64 4) Sj.out.1;rotate_left;have V5:=Ep a 26 (.int .i64 0) Sj.out.1;rotate_left
  all_goals(go_step;exact hK _ _ rfl hG Br)
 intro vs w5 hG hlen hV
 match vs,hlen,hV with
 | [v0,v1,v2,v3,v4,v5,v6,v7,v8,v9,v10,v11,v12,v13,v14,v15,v16,v17],_,hV=>
  obtain⟨tb,hvb,uV,hrow⟩:=(show Ro w4.heap.size (kC.mk sS [GN,GQ] 4 0) 2 w5 v13 from hV 13 4 v13 rfl rfl);rw[if_neg (by decide)]at hrow
  obtain⟨m1,TR,hrow,hS⟩:=hrow;have hO:=(show fw w5 v15 [GN,GQ]from hV 15 5 v15 rfl rfl);obtain rfl:v16=.int .i64 4:=hV 16 6 v16 rfl rfl;obtain rfl:v17=.int .i64 0:=hV 17 7 v17 rfl rfl;subst hvb;clear hV;obtain⟨b1,o1,c1,vb,vo,vc,tz,hv1,hc1⟩:=zT hO;obtain⟨pa,pc,hp1⟩:=hS.empty;have hp2:m1=10/\TR=.slice pa 0 pc:=by simpa using hp1
  obtain⟨rfl,rfl⟩:=hp2;clear hp1;subst hv1;have H5:Hid (dn w5 qb qS/\jy w5 eb eS/\Bw w w5/\bT w5 tb 10 (.slice pa 0 pc)/\gW w5 (.agg #[.int .i64 10,.slice pa 0 pc]) sS/\fw w5 (.slice (some ⟨b1,o1,none⟩) 2 c1) [GN,GQ]):=Lh ⟨H4.out.1.below hG,H4.out.2.1.below hG,H4.out.2.2.2.trans (hG.mono H4.out.2.2.2.size),hrow,hS,hO⟩;clear hrow hS hO hG uV hc1;simp only[dG,bf7,bf1];simp only[Act.put,bfw,bfu,bfv];clear H4 Xz SB Y2 uq;obtain⟨d0,d1,d2,d3,d4,d5⟩:=H5.out.1.d6;obtain⟨e0,e1⟩:=H5.out.2.2.2.1.d2;go_upto_region 4 with(fail);refine bg4 ?_
  iterate 9 go_step
  have TA:Hid (Calls prog 15 #[.agg #[.int .i64 1,.int .i64 10,.int .i64 0,.int .i64 0,.int .i64 2,.int .i64 0],.agg #[.int .i64 10,.slice pa 0 pc],.agg #[.int .i64 0,.string ⟨#[]⟩,.int .i64 0,.int .i64 0]] w5 (jf w5 sS [] 2)):=by
   obtain⟨pv,l,e1,e2,e3,e4⟩:=H5.out.2.2.2.2.1;obtain rfl:l=[]:=List.map_eq_nil_iff.1 e4.symm;have e5:(10:Int)=sS.mark/\Value.slice pa 0 pc=pv:=by simpa using e1
   obtain⟨_,rfl⟩:=e5;have h:=J3 w5 qS 10 (.slice pa 0 pc) kz [] e2 (λy hy=>by simp at hy) ⟨λx hx=>by simp at hx,by simp⟩ (by decide)
   rw[show(⟨10,([]:List bn).map bn.p⟩:di)=sS from rfl,Py]at h;exact Lh h
  refine wpList_plain rfl λK hK=>?_;go_step;refine TA.out.mono ?_;rintro e w6 ⟨sv,ov,rfl,hS,hO,hB⟩;refine hK _ _ ?_;clear hK TA d0 d1 d2 d3 d4 d5 e0 e1;obtain⟨qa,qc,hp1⟩:=hS.empty;subst hp1;obtain⟨oa,oc,l0,hov,_,_,_,hl0⟩:=hO;obtain rfl:l0=[]:=List.map_eq_nil_iff.1 hl0.symm;clear hl0;subst hov;have H6:Hid (dn w6 qb qS/\jy w6 eb eS/\Bw w w6/\bT w6 tb 10 (.slice pa 0 pc)/\gW w6 (.agg #[.int .i64 10,.slice pa 0 pc]) sS/\fw w6 (.slice (some ⟨b1,o1,none⟩) 2 c1) [GN,GQ]/\gW w6 (.agg #[.int .i64 10,.slice qa 0 qc]) sS):=by
   obtain⟨k1,k2,k3,k4,k5,k6⟩:=H5.out;exact Lh ⟨k1.below hB,k2.below hB,Tb k3 hB,k4.below hB,k5.below hB,k6.below hB,hS⟩
  clear H5 hS hB;rw[show([]:List bM).length=0 from rfl]
  iterate 15 go_step
  refine bg6 rfl _ _ _ rfl w6.heap.size #[.int .i64 10,.slice qa 0 qc] rfl rfl 29 #[.int .i64 0,bS] (bg5 w6 _) bF rfl (cB rfl) ?_;obtain⟨w7,hw7⟩:=Nm ((w6.alloc (Obj.cells #[.int .i64 0,.slice none 0 0] 29)).setRow w6.heap.size #[.int .i64 10,.slice qa 0 qc]);obtain⟨ub,hub⟩:=Nm (w6.heap.size);have H7:Hid (dn w7 qb qS/\jy w7 eb eS/\Bw w w7/\bT w7 tb 10 (.slice pa 0 pc)/\gW w7 (.agg #[.int .i64 10,.slice pa 0 pc]) sS/\fw w7 (.slice (some ⟨b1,o1,none⟩) 2 c1) [GN,GQ]/\gW w7 (.agg #[.int .i64 10,.slice qa 0 qc]) sS/\bT w7 ub 10 (.slice qa 0 qc)):=by
   obtain⟨k1,k2,k3,k4,k5,k6,k7⟩:=H6.out;obtain⟨j1,hB⟩:=jH w6 10 (.slice qa 0 qc);have e:w7=(w6.alloc (Obj.cells #[.int .i64 0,bS] 29)).setRow w6.heap.size #[.int .i64 10,.slice qa 0 qc]:=hw7;rw[<-e,<-hub]at j1;rw[<-e]at hB;exact Lh ⟨k1.below hB,k2.below hB,Tb k3 hB,k4.below hB,k5.below hB,k6.below hB,k7.below hB,j1⟩
  rw[<-hw7,<-hub];clear hw7 hub H6;obtain⟨b2,o2,c2,Z8,Z9,Ee,tz2,hv1,hc1⟩:=zT H7.out.2.2.2.2.2.1;have O6:(b1=b2/\o1=o2)/\c1=c2:=by simpa using hv1
  obtain⟨⟨rfl,rfl⟩,rfl⟩:=O6;clear hv1;have HC:Hid (∀w',Bw w7 w'->(w'.cell? ⟨b1,o1+5,none⟩=some (Sv kF)/\w'.cell? ⟨b1,o1+6,none⟩=some (.int .i64 0)/\w'.cell? ⟨b1,o1+7,none⟩=some (.int .i64 10)/\w'.cell? ⟨b1,o1+8,none⟩=some (.int .i64 1)/\w'.cell? ⟨b1,o1+9,none⟩=some (.slice (some ⟨Z8,Z9,none⟩) 1 Ee)/\w'.cell? ⟨Z8,Z9,none⟩=some (.int .i64 10))/\
    w'.cell? ⟨b1,o1+10,none⟩=some (.bool true)/\w'.cell? ⟨b1,o1+11,none⟩=some (.int .i64 1)/\w'.cell? ⟨b1,o1+12,none⟩=some (Sv kF)/\w'.cell? ⟨b1,o1+13,none⟩=some (.int .i64 3)/\w'.cell? ⟨b1,o1+14,none⟩=some (.int .i64 5)):=by
   obtain⟨⟨k1,k2,k3,k4,k5,k6⟩,k7,k8,k9,k10,k11,_⟩:=hc1;have f:∀{p:Addr} {v:Value} {w':World},Bw w7 w'->w7.cell? p=some v->w'.cell? p=some v:=λhB h=>(hB.cell (block_lt_of_cell h)).trans h;exact Lh (λw' h=>⟨⟨f h k1,f h k2,f h k3,f h k4,f h k5,f h k6⟩,f h k7,f h k8,f h k9,f h k10,f h k11⟩)
  clear hc1;have HR:Hid (∀w',Bw w7 w'->D6 w' qb 1 10 0 0 2 0/\DX w' eb 1 kF 3 5/\D2 w' tb 10 (.slice pa 0 pc)/\D2 w' ub 10 (.slice qa 0 qc)):=Lh (λw' h=>⟨(H7.out.1.below h).d6,(H7.out.2.1.below h).dx,(H7.out.2.2.2.1.below h).d2,(H7.out.2.2.2.2.2.2.2.below h).d2⟩);have HG7:Hid (Bw w7 w7.drew):=(Below.refl _ w7).drew;have hfO:jr [GN,GQ]:=by
   intro x hx;simp only[bf2,bf9,or_false]at hx;rcases hx with rfl | rfl <;> decide
  have hfS:dL qS sS.panes 256:=KY qS;have HSa:Hid (∀w',Bw w7 w'->Calls prog 16 #[.agg #[.int .i64 10,.slice pa 0 pc],.agg #[.int .i64 10,.slice qa 0 qc]] w' (bE w' (.bool true))):=by
   refine Lh (λw' hB=>?_);have h:=Qc (H7.out.2.2.2.2.1.below hB) (H7.out.2.2.2.2.2.2.1.below hB) hfS hfS;rw[bfr rfl]at h;exact h
  have iQ:Hid (∀w',Bw w7 w'->Calls prog 13 #[.slice (some ⟨b1,o1,none⟩) 2 c1,.slice (some ⟨b1,o1,none⟩) 2 c1] w' (bE w' (.bool true))):=by
   refine Lh (λw' hB=>?_);have h:=yY (H7.out.2.2.2.2.2.1.below hB) (H7.out.2.2.2.2.2.1.below hB) hfO hfO (by decide) (by decide)
   rw[bfr rfl]at h;exact h
  have uo:Hid (∀w',Bw w7 w'->Calls prog 17 #[.agg #[.int .i64 1,.int .i64 10,.int .i64 0,.int .i64 0,.int .i64 2,.int .i64 0],.agg #[.int .i64 10,.slice pa 0 pc]] w' (bE w' (.bool true))):=by
   refine Lh (λw' hB=>?_);obtain⟨pv,l,e1,e2,e3,e4⟩:=H7.out.2.2.2.2.1.below hB;obtain rfl:l=[]:=List.map_eq_nil_iff.1 e4.symm;have e5:(10:Int)=sS.mark/\Value.slice pa 0 pc=pv:=by simpa using e1
   obtain⟨_,rfl⟩:=e5;have h:=Bt w' qS 10 (.slice pa 0 pc) [] e2 (λy hy=>by simp at hy) ⟨λx hx=>by simp at hx,by simp⟩
   rw[show(⟨10,([]:List bn).map bn.p⟩:di)=sS from rfl,G6]at h;exact h
  have HNw:Hid (∀w',Calls prog 9 #[] w' (λe w''=>e=.returned (.agg #[.int .i64 (-1),bS])/\Bw w' w'')):=Lh (λw'=>Bp w');obtain⟨VW,Vv⟩:=Nm (Value.agg wF.cells);have Xk:Hid (VW=Value.agg wF.cells/\(∀w,(binOp .eql 47 VW VW).run prog w=.ok (.bool true) w)/\∀w op o1 o2,(eqGuard op 47 o1 o2 VW VW).run prog w=.ok () w):=by
   refine Lh ⟨Vv,?_,?_⟩
   ·intro w;rw[Vv,jo,(ku _ _).2 rfl]
   intro w op o1 o2;rw[Vv];exact fT w op o1 o2 _ _
  have V9:Hid (VE=Value.agg eS.cells/\(∀w,(binOp .eql 42 VE VE).run prog w=.ok (.bool true) w)/\∀w op o1 o2,(eqGuard op 42 o1 o2 VE VE).run prog w=.ok () w):=by
   refine Lh ⟨HV.out.1,?_,?_⟩
   ·intro w;rw[HV.out.1,wZ,(MK _ _).2 rfl]
   intro w op o1 o2;rw[HV.out.1];exact nP w op o1 o2 _ _
  clear Vv HV;go_upto_region 5 with(fail);refine bD (λi=>([]:List Nat).contains i) (by kernel_rfl) (NoF (NoF (NoF (NoF (NoF (NoF (NoF (NoF (NoF (NoF (NoF (NoF (NoF (NoF (NoF (NoF (NoF (NoF (NoF [none,none,none]))))))))))))))))))) [] (λi_ _ _ v_=>v_=(((Value.int .i64 0)::(Value.bool true)::(Value.bool true)::(Value.int .i64 4)::(Value.bool true)::(Value.bool true)::(Value.bool true)::(Value.slice (some ⟨b1,o1,none⟩) 2 c1)::(Value.int .i64 2)::(Value.bool true)::(Value.bool true)::(Value.bool true)::(Value.slice (some ⟨b1,o1,none⟩) 2 c1)::(Value.pointer (some ⟨b1,o1,none⟩))::(Value.pointer (some ⟨b1,o1+5,none⟩))::VW::VW::(Value.bool true)::(Value.bool true)::(Value.bool true)::(Value.slice (some ⟨b1,o1,none⟩) 2 c1)::(Value.pointer (some ⟨b1,o1,none⟩))::(Value.pointer (some ⟨b1,o1+8,none⟩))::(Value.int .i64 1)::(Value.bool true)::(Value.bool true)::(Value.bool true)::(Value.slice (some ⟨b1,o1,none⟩) 2 c1)::(Value.pointer (some ⟨b1,o1,none⟩))::(Value.pointer (some ⟨b1,o1+9,none⟩))::(Value.slice (some ⟨Z8,Z9,none⟩) 1 Ee)::(Value.int .i64 1)::(Value.bool true)::(Value.bool true)::(Value.bool true)::(Value.slice (some ⟨b1,o1,none⟩) 2 c1)::(Value.pointer (some ⟨b1,o1,none⟩))::(Value.pointer (some ⟨b1,o1+9,none⟩))::(Value.slice (some ⟨Z8,Z9,none⟩) 1 Ee)::(Value.pointer (some ⟨Z8,Z9,none⟩))::(Value.int .i64 10)::(Value.bool true)::(Value.bool true)::(Value.bool true)::(Value.slice (some ⟨b1,o1,none⟩) 2 c1)::(Value.pointer (some ⟨b1,o1+10,none⟩))::(Value.pointer (some ⟨b1,o1+10,none⟩))::(Value.bool true)::(Value.bool true)::(Value.bool true)::(Value.slice (some ⟨b1,o1,none⟩) 2 c1)::(Value.pointer (some ⟨b1,o1+10,none⟩))::(Value.pointer (some ⟨b1,o1+11,none⟩))::VE::VE::([.bool true,.bool true,.bool true,.pointer (some ⟨tb,0,none⟩),.int .i64 10,.bool true,.bool true,.bool true,.pointer (some ⟨tb,1,none⟩),.slice pa 0 pc,.int .i64 0,.bool true,.bool true,.bool true,.int .i64 2,.bool true,.bool true,.bool true,.slice oa 0 oc,.int .i64 0,.bool true,.bool true,.bool true,.agg #[.int .i64 10,.slice pa 0 pc],.agg #[.int .i64 10,.slice qa 0 qc],.bool true,.bool true,.bool true,.agg #[.int .i64 1,.int .i64 10,.int .i64 0,.int .i64 0,.int .i64 2,.int .i64 0],.agg #[.int .i64 10,.slice pa 0 pc],.bool true,.bool true,.bool true,.slice (some ⟨b1,o1,none⟩) 2 c1,.slice (some ⟨b1,o1,none⟩) 2 c1,.bool true,.bool true,.bool true,.agg #[.int .i64 (-1),.slice none 0 0],.int .i64 (-1),.bool true,.bool true,.bool true]:List Value))).getD i_ undef) (λ_ w'=>Bw w7 w') (λw w'=>Bw w w') (λ_ _ _ _ _ _ h=>h) (by kernel_rfl) (by kernel_rfl) (by kernel_rfl) HG7.out (λ_=>⟨rfl,rfl,rfl,IlA,IlA,rfl,rfl,IlA,IlA,IlA,rfl,rfl,IlA,IlA,IlA,IlA,IlA,IlA,rfl,rfl,IlA,IlA,IlA,IlA,IlA,rfl,rfl,IlA,IlA,IlA,IlA,IlA,IlA,rfl,rfl,IlA,IlA,IlA,IlA,IlA,IlA,IlA,rfl,rfl,IlA,IlA,IlA,IlA,rfl,rfl,IlA,IlA,IlA,IlA,IlA,IlA,rfl,rfl,IlA,IlA,IlA,rfl,rfl,IlA,IlA,IlA,IlA,rfl,rfl,IlA,IlA,rfl,rfl,IlA,IlA,IlA,rfl,rfl,IlA,IlA,IlA,rfl,rfl,IlA,IlA,IlA,rfl,rfl,IlA,IlA,IlA,rfl,rfl,IlA,IlA,IlA,rfl,rfl,trivial⟩) (λ_ h=>by simp at h) ?_ ?_
  ·refine ⟨?_,?_,?_,?_,?_,?_,?_,?_,?_,?_,?_,?_,?_,?_,?_,?_,?_,?_,?_,?_,?_,?_,?_,?_,?_,?_,?_,?_,?_,?_,?_,?_,?_,?_,?_,?_,?_,?_,?_,?_,?_,?_,?_,?_,?_,?_,?_,?_,?_,?_,?_,?_,?_,?_,?_,?_,?_,?_,?_,?_,?_,?_,?_,?_,?_,?_,?_,?_,?_,?_,?_,?_,?_,?_,?_,?_,?_,?_,?_,?_,?_,?_,?_,?_,?_,?_,?_,?_,?_,?_,?_,?_,?_,?_,?_,?_,?_,?_,trivial⟩<;>intro _ _ a w' hG Si Sj K hK<;>replace Si:=Lh Si<;>replace Sj:=Lh Sj
   have q7:=FoA Si 7 (.int .i64 0);rotate_left;have Xw:=Ep a 35 (.int .i64 0) Sj.out.1;rotate_left;have YS:=Ep a 36 (.bool true) Sj.out.1;rotate_left;have q6:=FoA Si 6 (.int .i64 4);rotate_left;have XX:=Ep a 38 (.int .i64 4) Sj.out.1;rotate_left;have YD:=Ep a 37 (.bool true) Sj.out.1;have XY:=Ep a 39 (.bool true) Sj.out.2.1;rotate_left;have YE:=Ep a 40 (.bool true) Sj.out.1;rotate_left;have q5:=FoA Si 5 (.slice (some ⟨b1,o1,none⟩) 2 c1);rotate_left;have Z4:=Ep a 42 (.slice (some ⟨b1,o1,none⟩) 2 c1) Sj.out.1;rotate_left;have Z5:=Ep a 43 (.int .i64 2) Sj.out.1;rotate_left;have Z0:=Ep a 41 (.bool true) Sj.out.1;have YT:=Ep a 44 (.bool true) Sj.out.2.1;rotate_left;have Z6:=Ep a 45 (.bool true) Sj.out.1;rotate_left;have q5:=FoA Si 5 (.slice (some ⟨b1,o1,none⟩) 2 c1);rotate_left;have Zz:=Ep a 47 (.slice (some ⟨b1,o1,none⟩) 2 c1) Sj.out.1;rotate_left;have Z7:=Ep a 48 (.pointer (some ⟨b1,o1,none⟩)) Sj.out.1;rotate_left
   ·have iF:=Ep a 49 (.pointer (some ⟨b1,o1+5,none⟩)) Sj.out.1;obtain⟨⟨d0,d1,d2,_⟩,_⟩:=HC.out w' hG;go_step;exact hK _ _ Xk.out.1.symm hG Br
   ·go_step;exact hK _ _ Xk.out.1.symm hG Br
   have EX:=Ep a 50 VW Sj.out.1;have EY:=Ep a 51 VW Sj.out.2.1;have he:=Xk.out.2.1;have hgd:=Xk.out.2.2;rotate_left;have Zy:=Ep a 46 (.bool true) Sj.out.1;have AV:=Ep a 52 (.bool true) Sj.out.2.1;rotate_left;have Um:=Ep a 53 (.bool true) Sj.out.1;rotate_left;have q5:=FoA Si 5 (.slice (some ⟨b1,o1,none⟩) 2 c1);rotate_left;have ZA:=Ep a 55 (.slice (some ⟨b1,o1,none⟩) 2 c1) Sj.out.1;rotate_left;have q56:=Ep a 56 (.pointer (some ⟨b1,o1,none⟩)) Sj.out.1;rotate_left;have q57:=Ep a 57 (.pointer (some ⟨b1,o1+8,none⟩)) Sj.out.1;have d0:=(HC.out w' hG).1.2.2.2.1;rotate_left;have q58:=Ep a 58 (.int .i64 1) Sj.out.1;rotate_left;have EZ:=Ep a 54 (.bool true) Sj.out.1;have q59:=Ep a 59 (.bool true) Sj.out.2.1;rotate_left;have q60:=Ep a 60 (.bool true) Sj.out.1;rotate_left;have q5:=FoA Si 5 (.slice (some ⟨b1,o1,none⟩) 2 c1);rotate_left;have q62:=Ep a 62 (.slice (some ⟨b1,o1,none⟩) 2 c1) Sj.out.1;rotate_left;have q63:=Ep a 63 (.pointer (some ⟨b1,o1,none⟩)) Sj.out.1;rotate_left;have Uo:=Ep a 64 (.pointer (some ⟨b1,o1+9,none⟩)) Sj.out.1;have d0:=(HC.out w' hG).1.2.2.2.2.1;rotate_left;have q65:=Ep a 65 (.slice (some ⟨Z8,Z9,none⟩) 1 Ee) Sj.out.1;rotate_left;have q66:=Ep a 66 (.int .i64 1) Sj.out.1;rotate_left;have Un:=Ep a 61 (.bool true) Sj.out.1;have q67:=Ep a 67 (.bool true) Sj.out.2.1;rotate_left;have q68:=Ep a 68 (.bool true) Sj.out.1;rotate_left;have q5:=FoA Si 5 (.slice (some ⟨b1,o1,none⟩) 2 c1);rotate_left;have E5:=Ep a 70 (.slice (some ⟨b1,o1,none⟩) 2 c1) Sj.out.1;rotate_left;have AX:=Ep a 71 (.pointer (some ⟨b1,o1,none⟩)) Sj.out.1;rotate_left;have AY:=Ep a 72 (.pointer (some ⟨b1,o1+9,none⟩)) Sj.out.1;have d0:=(HC.out w' hG).1.2.2.2.2.1;rotate_left;have iG:=Ep a 73 (.slice (some ⟨Z8,Z9,none⟩) 1 Ee) Sj.out.1;rotate_left;have AZ:=Ep a 74 (.pointer (some ⟨Z8,Z9,none⟩)) Sj.out.1;have d0:=(HC.out w' hG).1.2.2.2.2.2;rotate_left;have A7:=Ep a 75 (.int .i64 10) Sj.out.1;rotate_left;have Uq:=Ep a 69 (.bool true) Sj.out.1;have iH:=Ep a 76 (.bool true) Sj.out.2.1;rotate_left;have q77:=Ep a 77 (.bool true) Sj.out.1;rotate_left;have q5:=FoA Si 5 (.slice (some ⟨b1,o1,none⟩) 2 c1);rotate_left;have Ur:=Ep a 79 (.slice (some ⟨b1,o1,none⟩) 2 c1) Sj.out.1;rotate_left;have E8:=Ep a 80 (.pointer (some ⟨b1,o1+10,none⟩)) Sj.out.1;rotate_left;have Us:=Ep a 81 (.pointer (some ⟨b1,o1+10,none⟩)) Sj.out.1;have d0:=(HC.out w' hG).2.1;rotate_left;have q78:=Ep a 78 (.bool true) Sj.out.1;have q82:=Ep a 82 (.bool true) Sj.out.2.1;rotate_left;have q83:=Ep a 83 (.bool true) Sj.out.1;rotate_left;have q5:=FoA Si 5 (.slice (some ⟨b1,o1,none⟩) 2 c1);rotate_left;have q85:=Ep a 85 (.slice (some ⟨b1,o1,none⟩) 2 c1) Sj.out.1;rotate_left;have q86:=Ep a 86 (.pointer (some ⟨b1,o1+10,none⟩)) Sj.out.1;rotate_left
   ·have q87:=Ep a 87 (.pointer (some ⟨b1,o1+11,none⟩)) Sj.out.1;obtain⟨_,_,d0,d1,d2,d3⟩:=HC.out w' hG;go_step;exact hK _ _ V9.out.1.symm hG Br
   ·have q2:=FaA Si 2 eb 0;obtain⟨_,⟨d0,d1,d2,d3⟩,_⟩:=HR.out w' hG;go_step;exact hK _ _ V9.out.1.symm hG Br
   have q88:=Ep a 88 VE Sj.out.1;have q89:=Ep a 89 VE Sj.out.2.1;have he:=V9.out.2.1;have hgd:=V9.out.2.2;rotate_left;have q84:=Ep a 84 (.bool true) Sj.out.1;have q90:=Ep a 90 (.bool true) Sj.out.2.1;rotate_left;have q91:=Ep a 91 (.bool true) Sj.out.1;rotate_left;have q4:=FaA Si 4 tb 0;rotate_left;have q93:=Pa a 93 tb 0 Sj.out.1;obtain⟨_,_,⟨d0,d1⟩,_⟩:=HR.out w' hG;rotate_left;have q94:=Ep a 94 (.int .i64 10) Sj.out.1;rotate_left;have Ut:=Ep a 92 (.bool true) Sj.out.1;have E9:=Ep a 95 (.bool true) Sj.out.2.1;rotate_left;have Ia:=Ep a 96 (.bool true) Sj.out.1;rotate_left;have q4:=FaA Si 4 tb 0;rotate_left;have A8:=Pa a 98 tb 1 Sj.out.1;obtain⟨_,_,⟨d0,d1⟩,_⟩:=HR.out w' hG;rotate_left;have Uu:=Ep a 99 (.slice pa 0 pc) Sj.out.1;rotate_left;have iA:=Ep a 100 (.int .i64 0) Sj.out.1;rotate_left;have Ib:=Ep a 97 (.bool true) Sj.out.1;have iB:=Ep a 101 (.bool true) Sj.out.2.1;rotate_left;have iC:=Ep a 102 (.bool true) Sj.out.1;rotate_left;have XV:=FoA Si 10 (.int .i64 2);rotate_left;have iD:=Ep a 104 (.int .i64 2) Sj.out.1;rotate_left;have AB:=Ep a 103 (.bool true) Sj.out.1;have iE:=Ep a 105 (.bool true) Sj.out.2.1;rotate_left;have Zl:=Ep a 106 (.bool true) Sj.out.1;rotate_left;have q9:=FoA Si 9 (.slice oa 0 oc);rotate_left;have Zn:=Ep a 108 (.slice oa 0 oc) Sj.out.1;rotate_left;have Zo:=Ep a 109 (.int .i64 0) Sj.out.1;rotate_left;have Zm:=Ep a 107 (.bool true) Sj.out.1;have Zq:=Ep a 110 (.bool true) Sj.out.2.1;rotate_left;have Zt:=Ep a 111 (.bool true) Sj.out.1;rotate_left;have q4:=FaA Si 4 tb 0;obtain⟨_,_,⟨d0,d1⟩,_⟩:=HR.out w' hG;rotate_left;have q8:=FaA Si 8 ub 0;obtain⟨_,_,_,⟨d0,d1⟩⟩:=HR.out w' hG;rotate_left
   ·have AC:=Ep a 113 (.agg #[.int .i64 10,.slice pa 0 pc]) Sj.out.1;have AJ:=Ep a 114 (.agg #[.int .i64 10,.slice qa 0 qc]) Sj.out.2.1;have HS:=Lh (HSa.out w' hG);go_step;refine HS.out.mono ?_;rintro e w3 ⟨rfl,hB⟩;exact hK _ _ rfl (Tb hG hB) hB
   have Zu:=Ep a 112 (.bool true) Sj.out.1;have AL:=Ep a 115 (.bool true) Sj.out.2.1;rotate_left;have AO:=Ep a 116 (.bool true) Sj.out.1;rotate_left;have q1:=FaA Si 1 qb 0;obtain⟨⟨d0,d1,d2,d3,d4,d5⟩,_⟩:=HR.out w' hG;rotate_left;have q4:=FaA Si 4 tb 0;obtain⟨_,_,⟨d0,d1⟩,_⟩:=HR.out w' hG;rotate_left
   ·have AQ:=Ep a 118 (.agg #[.int .i64 1,.int .i64 10,.int .i64 0,.int .i64 0,.int .i64 2,.int .i64 0]) Sj.out.1;have AR:=Ep a 119 (.agg #[.int .i64 10,.slice pa 0 pc]) Sj.out.2.1;have HS:=Lh (uo.out w' hG);go_step;refine HS.out.mono ?_;rintro e w3 ⟨rfl,hB⟩;exact hK _ _ rfl (Tb hG hB) hB
   have AP:=Ep a 117 (.bool true) Sj.out.1;have AU:=Ep a 120 (.bool true) Sj.out.2.1;rotate_left;have Zv:=Ep a 121 (.bool true) Sj.out.1;rotate_left;have q5:=FoA Si 5 (.slice (some ⟨b1,o1,none⟩) 2 c1);rotate_left;have q5:=FoA Si 5 (.slice (some ⟨b1,o1,none⟩) 2 c1);rotate_left
   ·have q123:=Ep a 123 (.slice (some ⟨b1,o1,none⟩) 2 c1) Sj.out.1;have q124:=Ep a 124 (.slice (some ⟨b1,o1,none⟩) 2 c1) Sj.out.2.1;have HS:=Lh (iQ.out w' hG);go_step;refine HS.out.mono ?_;rintro e w3 ⟨rfl,hB⟩;exact hK _ _ rfl (Tb hG hB) hB
   have Zw:=Ep a 122 (.bool true) Sj.out.1;have q125:=Ep a 125 (.bool true) Sj.out.2.1;rotate_left;have q126:=Ep a 126 (.bool true) Sj.out.1;rotate_left
   ·have HS:=Lh (HNw.out w');go_step;refine HS.out.mono ?_;rintro e w3 ⟨rfl,hB⟩;exact hK _ _ rfl (Tb hG hB) hB
   have q128:=Ep a 128 (.agg #[.int .i64 (-1),.slice none 0 0]) Sj.out.1;rotate_left;have q129:=Ep a 129 (.int .i64 (-1)) Sj.out.1;rotate_left;have q127:=Ep a 127 (.bool true) Sj.out.1;have q130:=Ep a 130 (.bool true) Sj.out.2.1;rotate_left;have q131:=Ep a 131 (.bool true) Sj.out.1;rotate_left
   all_goals(go_step;exact hK _ _ rfl hG Br)
  intro vs w2 hG hlen hV
  match vs,hlen,hV with
  | v0::v1::v2::v3::v4::v5::v6::v7::v8::v9::v10::v11::v12::v13::v14::v15::v16::v17::v18::v19::v20::v21::v22::v23::v24::v25::v26::v27::v28::v29::v30::v31::v32::v33::v34::v35::v36::v37::v38::v39::v40::v41::v42::v43::v44::v45::v46::v47::v48::v49::v50::v51::v52::v53::v54::v55::v56::v57::v58::v59::v60::v61::v62::v63::v64::v65::v66::v67::v68::v69::v70::v71::v72::v73::v74::v75::v76::v77::v78::v79::v80::v81::v82::v83::v84::v85::v86::v87::v88::v89::v90::v91::v92::v93::v94::v95::v96::v97::[],_,hV=>
   obtain rfl:v97=.bool true:=(hV 97 0 v97 rfl rfl);clear hV;simp only[dG,List.append_eq,List.cons_append,List.nil_append,bf7,bf1];simp only[Act.put,bfw,bfu,bfv];have HZ:Hid (Bw w w2):=Lh (H7.out.2.2.1.trans (hG.mono H7.out.2.2.1.size));clear hG;go_wp2_with(fail);go_ret;exact⟨rfl,HZ.out⟩
end Go.Proofs.YtjeeghafachebaaGreat
