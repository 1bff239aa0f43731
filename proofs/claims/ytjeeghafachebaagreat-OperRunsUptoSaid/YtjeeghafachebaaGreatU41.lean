/-
  41.
-/
import Derived.Test.YtjeeghafachebaaGreatU40
set_option maxRecDepth 100000
set_option maxHeartbeats 8000000
namespace Go.Proofs.YtjeeghafachebaaGreat
open Go Go.RowKit Go.Proofs.Tryz
def rU(w:World)(r:kC)(e:Ending)(w':World):Prop:=∃sv ov,e=.returned (.tuple #[sv,ov,.int .i64 r.n,.int .i64 r.e])/\gW w' sv r.s/\fw w' ov r.outs/\Bw w w'
theorem ja {P:Program} {fn:Func} {p s u t3:Tmp} {ty:TypeId}(h:fn.results=#[.cell p ty,.tmp s,.tmp u,.tmp t3])(tmps:Array Value)(w:World)(g:Nat)(t:TypeId)(cs:Array Value)(fr:Nat × Nat)(d:TypeDesc)
  (hp:tmps.getD p undef=.pointer (some ⟨g,0,none⟩)) (hg:w.heap[g]? =some (.cells cs t fr)) (hd:P.underlying ty=some d) (ha:(match d with | .struct _ | .array _ _=>true | _=>false)=true) (hi:(P.info? ty).map (·.size)=some cs.size):
  (results fn tmps).run P w=.ok (.tuple #[.agg cs,tmps.getD s undef,tmps.getD u undef,tmps.getD t3 undef]) w:=by
 have hp':tmps[p]?.getD undef=.pointer (some ⟨g,0,none⟩):=by simpa using hp
 simp[results,h,hp',asAddr,run_loadVar_row w g t ty cs fr d hg hd ha hi]
def F3(w:World)(qb sb rb:Nat)(q:bz)(m:Int)(pv:Value)(l:List bn)(ov:Value)(ol:List bM)(wr:World):Prop:=
 dn wr qb q/\bT wr sb m pv/\bT wr rb 0 bS/\bO wr pv l/\(∀y∈l,bR wr y)/\fe wr (rb+1) ov ol/\(∀y∈ol,dO wr y)/\Bw w wr
theorem F3.below {w:World} {qb sb rb:Nat} {q:bz} {m:Int} {pv:Value} {l:List bn} {ov:Value} {ol:List bM} {wr wz:World}(h:F3 w qb sb rb q m pv l ov ol wr)(hB:Bw wr wz):F3 w qb sb rb q m pv l ov ol wz:=by
 obtain⟨h1,h2,h3,h4,h5,h6,h7,h8⟩:=h;exact⟨h1.below hB,h2.below hB,h3.below hB,h4.below hB,λy hy=>(h5 y hy).below hB,h6.far hB,λy hy=>(h7 y hy).below hB,Tb h8 hB⟩
def Rn(w:World)(qb sb rb:Nat)(q:bz)(its:List bN)(r0:kC)(s10 Ec:Value)(wr:World):Prop:=
 ∃i:Nat,i<=its.length/\Ec=.int .i64 (i:Int)/\∃m pv l ol,r0=vP q ⟨m,l.map bn.p⟩ (ol.map bM.o) (i:Int) (its.drop i)/\dL q (l.map bn.p) 256/\ol.length<=256*i/\F3 w qb sb rb q m pv l s10 ol wr
theorem K7 {q:bz} {s:di} {o:List dB} {n:Int} {its:List bN} {i:Nat} {x:bN} {r0:kC}(h:r0=vP q s o n (its.drop i))(hx:its[i]? =some x):
  r0=if (dR q s x).2.2=0 then vP q (dR q s x).1 (o++(dR q s x).2.1) (n+1) (its.drop (i+1))else ⟨s,o,n,(dR q s x).2.2⟩:=by
 rw[h,List.drop_eq_getElem?_toList_append,hx];rfl
theorem Ps {q:bz} {s:di} {o:List dB} {n:Int} {its:List bN} {i:Nat} {r0:kC}(h:r0=vP q s o n (its.drop i))(hi:¬i<its.length):r0=⟨s,o,n,0⟩:=by
 rw[h,List.drop_eq_nil_of_le (by omega)]
 rfl
def R8(w:World)(qb sb rb tb:Nat)(q:bz)(m:Int)(pv:Value)(m':Int)(pv':Value)(l':List bn)(wd:World)(k:Nat)(w':World):Prop:=
 (dn w' qb q/\bT w' sb (if k<=1 then m else m') (if k<=1 then pv else pv')/\bT w' rb 0 bS/\bT w' tb m' pv'/\bO w' pv' l'/\(∀y∈l',bR w' y)/\Bw w w')/\(k=0->w'=wd)
def Q7(B:Nat)(L:List bM):List (Nat × (Nat->World->Value->Prop)):=[(3,λk w v=>1<=k/\fe w B v L/\∀y∈L,dO w y),(5,λk w v=>1<=k/\fe w B v L/\∀y∈L,dO w y)]
theorem QK {B:Nat} {L:List bM}:∀p∈Q7 B L,∀k w w' v,w'=w->p.2 k w v->p.2 k w' v:=by
 intro p hp k w w' v e h;rw[e];exact h
theorem Li {B:Nat} {L:List bM} {w w':World} {l:List Oper} {a:Act}:∀p∈Q7 B L,3=p.1∨∀d,dQ l p.1=some d->p.2 0 w (a.eval (.tmp d))->p.2 1 w' (a.eval (.tmp d)):=by
 intro p hp;simp only[Q7,bf2,bf9,or_false]at hp;rcases hp with rfl | rfl
 ·exact .inl rfl
 exact .inr λd hd h=>absurd h.1 (by decide)
theorem lg {B sb:Nat} {L:List bM} {w w':World} {v:Value} {m:Int} {pv:Value}(hb:sb<B)(hr:bT w sb m pv)(hg:w.grownBy w' (some sb))(h:fe w B v L/\∀y∈L,dO w y):fe w' B v L/\∀y∈L,dO w' y:=
 ⟨h.1.kept hg (.inr (λe=>by have:=h.1.lt e;omega)),λy hy=>bA.grown (h.2 y hy) hg (λ_ _ _ e hne=>bA.apart (h.2 y hy) e hne hr (by decide))⟩
theorem Nu {B sb:Nat} {L:List bM} {w w':World} {l:List Oper} {a:Act} {m:Int} {pv:Value}(hb:sb<B)(hr:bT w sb m pv)(hg:w.grownBy w' (some sb)):∀p∈Q7 B L,4=p.1∨∀d,dQ l p.1=some d->p.2 1 w (a.eval (.tmp d))->p.2 2 w' (a.eval (.tmp d)):=by
 intro p hp;simp only[Q7,bf2,bf9,or_false]at hp;rcases hp with rfl | rfl
 ·exact .inr λd _ h=>⟨by decide,lg hb hr hg h.2⟩
 exact .inr λd _ h=>⟨by decide,lg hb hr hg h.2⟩
theorem Bv {w:World} {B:Nat} {v:Value} {l:List bM}(h:fe w B v l) {b:Nat}(hb:v.ownBlock=some b):∃cs,w.heap[b]? =some (.cells cs 50 (0,0)):=by
 rcases h.2 with⟨k1,_⟩ | ⟨g,c,cur,k1,_,k2,_⟩
 ·rw[k1]at hb;cases hb
 rw[k1]at hb;cases hb
 exact⟨cur,k2⟩
theorem bO.ww {w w':World} {v u:Value} {l:List bn} {B:Nat} {m:List bM}(h:bO w v l)(ho:fe w B u m)(hg:w.grownBy w' u.ownBlock):bO w' v l:=
 h.grown hg (λb hb=>by obtain⟨cs,hc⟩:=Bv ho hb;exact⟨cs,_,_,hc,by decide⟩)
theorem bA.ww {w w':World} {v u:Value} {l:List Int} {B:Nat} {m:List bM}(h:bA w v l)(ho:fe w B u m)(hg:w.grownBy w' u.ownBlock):bA w' v l:=
 bA.qR h hg (λa n c e hne he=>by obtain⟨cs,hc⟩:=Bv ho he;exact bA.apart h e hne hc (by decide) rfl)
theorem Bu(w:World)(q:bz)(m:Int)(pv:Value)(l:List bn)(ia:Option Addr)(ic:Nat)(its:List bN)(hA:bO w pv l)(hG:∀y∈l,bR w y)(hF:qG l)(hI:gq w ia its)(hk:∀x∈its,x.key.length<=1000000)(hn:its.length<=3000):
  Calls prog 8 #[.agg q.cells,.agg #[.int .i64 m,pv],.slice ia its.length ic] w (rU w (qB q ⟨m,l.map bn.p⟩ its)):=by
 have mixed:prog.follows .mixedOrders=true:=by kernel_rfl
 obtain⟨ps,hps⟩:=Nm (l.map bn.p);obtain⟨P,hP⟩:=Nm (rU w (qB q ⟨m,ps⟩ its));rw[<-hps,<-hP];obtain⟨r,hr⟩:=Nm (fQ q ⟨m,ps⟩);obtain⟨r0,hr0⟩:=Nm (vP q ⟨m,ps⟩ [] 0 its:kC);have SF:Hid (its≠[]->r=false->∀wz sv,gW wz sv ⟨m,ps⟩->Bw w wz->P (.returned (.tuple #[sv,.slice none 0 0,.int .i64 0,.int .i64 2])) wz):=Lh (λh1 h2 wz sv hS hB=>by
  rw[hr]at h2;rw[hP,qB,if_pos ⟨h1,h2⟩];exact⟨_,_,rfl,hS,fw.nil _,hB⟩)
 have Sl:Hid ((its=[]∨r=true)->∀wz sv ov,gW wz sv r0.s->fw wz ov r0.outs->Bw w wz->P (.returned (.tuple #[sv,ov,.int .i64 r0.n,.int .i64 r0.e])) wz):=Lh (λh wz sv ov hS hO hB=>by
  rw[hP,qB,if_neg (by rintro⟨h1,h2⟩;rcases h with h | h;exact h1 h;rw[<-hr,h]at h2;cases h2),<-hr0]
  exact⟨_,_,rfl,hS,hO,hB⟩)
 have SG:Hid (∀w',Bw w w'->Calls prog 17 #[.agg q.cells,.agg #[.int .i64 m,pv]] w' (bE w' (.bool r))):=by
  rw[hr,hps];exact Lh (λw' hB=>Bt w' q m pv l (hA.below hB) (λy hy=>(hG y hy).below hB) hF)
 have V6:Hid (∀w' m' pv' l',bO w' pv' l'->(∀y∈l',bR w' y)->qG l'->Calls prog 20 #[.agg #[.int .i64 m',pv']] w' (zD w' ⟨m',l'.map bn.p⟩)):=Lh (λw' m' pv' l' h1 h2 h3=>GR w' m' pv' l' h1 h2 h3);have TA:Hid (∀w' m' pv' l' (x:bN),bO w' pv' l'->(∀y∈l',bR w' y)->dL q (l'.map bn.p) 256->x.key.length<=1000000->Calls prog 21 #[.agg q.cells,.agg #[.int .i64 m',pv'],.agg x.cells] w' (jf w' (dR q ⟨m',l'.map bn.p⟩ x).1 (dR q ⟨m',l'.map bn.p⟩ x).2.1 (dR q ⟨m',l'.map bn.p⟩ x).2.2)):=Lh (λw' m' pv' l' x h1 h2 h3 h4=>Mq w' q m' pv' x l' h1 h2 h3 h4);have Tn:Hid (r=true->dL q (l.map bn.p) 256):=by rw[hr,hps];exact Lh (λh=>xW h)
 obtain⟨sa,sc,hpv,hz1,hz2⟩:=hA.form;clear hz1 hz2;obtain⟨N,hN⟩:=Nm (its.length);have HA:Hid (bO w pv l/\(∀y∈l,bR w y)/\qG l/\gq w ia its/\(∀x∈its,x.key.length<=1000000)/\N=its.length/\r0=vP q ⟨m,l.map bn.p⟩ [] 0 its/\ps=l.map bn.p):=Lh ⟨hA,hG,hF,hI,hk,hN,by rw[hr0,hps],hps⟩
 rw[<-hN]at hn ⊢;obtain⟨w1,hw1⟩:=Nm (((w.alloc (.cells q.cells 23)).alloc (.cells #[.int .i64 m,pv] 29)).alloc (.cells #[.int .i64 0,.slice none 0 0] 29));obtain⟨qb,Sm⟩:=Nm (w.heap.size);obtain⟨sb,hsb⟩:=Nm (w.heap.size+1);obtain⟨rb,hrb⟩:=Nm (w.heap.size+2);have H1:Hid (dn w1 qb q/\bT w1 sb m pv/\bT w1 rb 0 bS/\Bw w w1/\w1.heap.size=w.heap.size+3):=by rw[hw1,Sm,hsb,hrb];exact Lh (vZ w q m pv)
 have SA:Hid (w.heap.size<=qb/\qb<sb/\sb<rb/\w1.heap.size=rb+1):=Lh ⟨by omega,by omega,by omega,by have:=H1.out.2.2.2.2;omega⟩
 have HI1:Hid (F3 w qb sb rb q m pv l bS [] w1):=by
  obtain⟨k1,k2,k3,k4,_⟩:=H1.out;exact Lh ⟨k1,k2,k3,hA.below k4,λy hy=>(hG y hy).below k4,fe.nil _ _,λy hy=>by simp at hy,k4⟩
 clear hP hr hA hG hF hI hk hps hr0 H1 hN;obtain⟨Q,hQ⟩:=Nm q;rw[<-hQ]at HI1 HA;have Vl:Hid (∀w' m' pv' l' (x:bN),bO w' pv' l'->(∀y∈l',bR w' y)->dL Q (l'.map bn.p) 256->x.key.length<=1000000->Calls prog 21 #[.agg q.cells,.agg #[.int .i64 m',pv'],.agg x.cells] w' (jf w' (dR Q ⟨m',l'.map bn.p⟩ x).1 (dR Q ⟨m',l'.map bn.p⟩ x).2.1 (dR Q ⟨m',l'.map bn.p⟩ x).2.2)):=by rw[hQ];exact TA
 rw[<-hQ]at Tn;clear TA;obtain⟨kind,size,slide,late,agg,kq⟩:=q;have SV:Hid (∀w',dn w' qb Q->D6 w' qb kind size slide late agg kq):=by rw[hQ];exact Lh (λw' h=>h.d6)
 clear hQ;obtain⟨n,hnl⟩:=Nm (l.length);rw[<-hnl]at hpv;clear hnl;subst hpv;unfold bz.cells at hw1 SG Vl ⊢;simp only at hw1 SG Vl ⊢;have hs1:(w.alloc (.cells #[.int .i64 kind,.int .i64 size,.int .i64 slide,.int .i64 late,.int .i64 agg,.int .i64 kq] 23)).heap.size=w.heap.size+1:=bq w _;have hs2:((w.alloc (.cells #[.int .i64 kind,.int .i64 size,.int .i64 slide,.int .i64 late,.int .i64 agg,.int .i64 kq] 23)).alloc (.cells #[.int .i64 m,.slice sa n sc] 29)).heap.size=w.heap.size+2:=by rw[bq,bq]
 obtain⟨d0,d1,d2,d3,d4,d5⟩:=SV.out w1 HI1.out.1;obtain⟨e0,e1⟩:=HI1.out.2.1.d2;have V7:Hid (∀w2,F3 w qb sb rb Q m (.slice sa n sc) l bS [] w2->True):=Lh (λ_ _=>trivial);clear V7;by_cases hz:N=0
 ·subst hz;have Ev:Hid (its=[]):=Lh (bg3 HA.out.2.2.2.2.2.1.symm);go_enter func8,ntmps8;go_upto_region 1 with(fail);rw[<-hw1,<-hrb,<-hsb,<-Sm];clear hw1 hrb hsb Sm hs1 hs2;go_wp2_with(fail);clear e0 e1 d0 d1 d2 d3 d4 d5;go_loopw[10,29] (λs10 Ec wr=>Ec=.int .i64 0/\s10=bS/\F3 w qb sb rb Q m (.slice sa n sc) l bS [] wr) (λ_ _ _=>0)
  case atStart=>exact⟨rfl,rfl,HI1.out⟩
  case round=>
   obtain⟨rfl,rfl,hI⟩:=hrel;have Te:=Lh hI;clear hI;obtain⟨e0,e1⟩:=Te.out.2.1.d2;go_upto_region 12 with(fail);have HE:Hid (r0=⟨⟨m,l.map bn.p⟩,([]:List bM).map bM.o,((0:Nat):Int),0⟩):=by
    have h:=HA.out.2.2.2.2.2.2.1;rw[Ev.out]at h;exact Lh h
   have uH:=Lh (Sl.out (.inl Ev.out));refine bg4 ?_
   iterate 3 go_step
   refine wpList_plain rfl λK' hK'=>?_;go_step;refine(V6.out wr m (.slice sa n sc) l Te.out.2.2.2.1 Te.out.2.2.2.2.1 HA.out.2.2.1).mono ?_;rintro e wk ⟨sv,rfl,⟨Ty,lk,rfl,hP1,hP2,hP3⟩,hB⟩;refine hK' _ _ ?_;have HK:=Lh (bfy (Te.out.below hB) (bfy hP1 (bfy hP2 hP3)));clear hK' hB hP1 hP2 hP3 e0 e1
   iterate 9 go_step
   refine bg6 rfl _ _ _ rfl rb #[.int .i64 m,Ty] rfl rfl 29 #[.int .i64 0,bS] HK.out.1.2.2.1 bF rfl (cB HK.out.2.1.one) ?_;obtain⟨wz,hwz⟩:=Nm (wk.setRow rb #[.int .i64 m,Ty]);have HZ:Hid (bT wz rb m Ty/\P (.returned (.tuple #[.agg #[.int .i64 m,Ty],bS,.int .i64 ((0:Nat):Int),.int .i64 0])) wz):=by
    have hg:wk.grownBy wz (some rb):=by rw[hwz];exact bC _ _ _
    obtain⟨⟨j1,j2,j3,j4,j5,j6,j7,j8⟩,k1,k2,k3⟩:=HK.out;have hb:=SA.out;have S9:=lg (B:=rb+1) (by omega) j3 hg ⟨j6,j7⟩
    obtain⟨Vx,Vy,hv',hc',Ta⟩:=S9.1.form;have hS:gW wz (.agg #[.int .i64 m,Ty]) ⟨m,(l).map bn.p⟩:=⟨Ty,lk,rfl,k1.store j3 hg,λy hy=>(k2 y hy).kJ j3 hg,k3⟩;have hO:fw wz bS ((([]:List bM)).map bM.o):=⟨Vx,Vy,([]:List bM),hv',hc',Ta,S9.2,rfl⟩;have TW:=j8.trans (bG hg (by omega) j8.size)
    exact Lh ⟨by rw[hwz];exact j3.reset m _,by have h:=uH.out wz _ bS (by rw[HE.out];exact hS) (by rw[HE.out];exact hO) TW;rw[HE.out]at h;exact h⟩
   rw[<-hwz];clear hwz;go_wp2_with(fail);exact bodyPost_ret (v:=.tuple #[.agg #[.int .i64 m,Ty],bS,.int .i64 ((0:Nat):Int),.int .i64 0]) ((ja (p:=6) (s:=7) (u:=8) (t3:=9) (ty:=29) rfl _ _ rb 29 #[.int .i64 m,Ty] (0,0) _ rfl HZ.out.1 underlying29 rfl bF).trans rfl) rfl HZ.out.2
 have hN0:0<N:=by omega
 clear hz;go_enter func8,ntmps8;go_upto_region 1 with(fail);rw[<-hw1,<-hrb,<-hsb,<-Sm];clear hw1 hrb hsb Sm hs1 hs2
 cases r with
 | false=>
  go_wp2_with(fail);refine(SG.out w1 HI1.out.2.2.2.2.2.2.2).mono ?_;rintro e w2 ⟨rfl,hB⟩;have HI2:=Lh (HI1.out.below hB);clear hB e0 e1 d0 d1 d2 d3 d4 d5;dsimp only;obtain⟨e0,e1⟩:=HI2.out.2.1.d2;go_upto_region 2 with(fail);have Ev:Hid (its≠[]):=Lh (λe=>by have h:=HA.out.2.2.2.2.2.1;rw[e]at h;simp at h;omega)
  refine bg4 ?_
  iterate 3 go_step
  refine wpList_plain rfl λK' hK'=>?_;go_step;refine(V6.out w2 m (.slice sa n sc) l HI2.out.2.2.2.1 HI2.out.2.2.2.2.1 HA.out.2.2.1).mono ?_;rintro e wk ⟨sv,rfl,⟨Ty,lk,rfl,hP1,hP2,hP3⟩,hB⟩;refine hK' _ _ ?_;have HK:=Lh (bfy (HI2.out.below hB) (bfy hP1 (bfy hP2 hP3)));clear hK' hB hP1 hP2 hP3 e0 e1
  iterate 0 go_step
  refine bg6 rfl _ _ _ rfl rb #[.int .i64 m,Ty] rfl rfl 29 #[.int .i64 0,bS] HK.out.1.2.2.1 bF rfl (cB HK.out.2.1.one) ?_;obtain⟨wz,hwz⟩:=Nm (wk.setRow rb #[.int .i64 m,Ty]);have HZ:Hid (bT wz rb m Ty/\P (.returned (.tuple #[.agg #[.int .i64 m,Ty],(.slice none 0 0),.int .i64 0,.int .i64 2])) wz):=by
   have hg:wk.grownBy wz (some rb):=by rw[hwz];exact bC _ _ _
   obtain⟨⟨j1,j2,j3,j4,j5,j6,j7,j8⟩,k1,k2,k3⟩:=HK.out;have hb:=SA.out;have S9:=lg (B:=rb+1) (by omega) j3 hg ⟨j6,j7⟩
   obtain⟨Vx,Vy,hv',hc',Ta⟩:=S9.1.form;have hS:gW wz (.agg #[.int .i64 m,Ty]) ⟨m,(l).map bn.p⟩:=⟨Ty,lk,rfl,k1.store j3 hg,λy hy=>(k2 y hy).kJ j3 hg,k3⟩;have hO:fw wz (.slice none 0 0) ((([]:List bM)).map bM.o):=⟨Vx,Vy,([]:List bM),hv',hc',Ta,S9.2,rfl⟩;have TW:=j8.trans (bG hg (by omega) j8.size)
   exact Lh ⟨by rw[hwz];exact j3.reset m _,SF.out Ev.out (by trivial) wz _ (by rw[HA.out.2.2.2.2.2.2.2];exact hS) TW⟩
  rw[<-hwz];clear hwz;go_wp2_with(fail);exact bodyPost_ret (v:=.tuple #[.agg #[.int .i64 m,Ty],(.slice none 0 0),.int .i64 0,.int .i64 2]) ((ja (p:=6) (s:=7) (u:=8) (t3:=9) (ty:=29) rfl _ _ rb 29 #[.int .i64 m,Ty] (0,0) _ rfl HZ.out.1 underlying29 rfl bF).trans rfl) rfl HZ.out.2
 | true=>
  go_wp2_with(fail);refine(SG.out w1 HI1.out.2.2.2.2.2.2.2).mono ?_;rintro e w2 ⟨rfl,hB⟩;have HI2:=Lh (HI1.out.below hB);clear hB e0 e1 d0 d1 d2 d3 d4 d5 HI1;dsimp only;go_wp2_with(fail);go_loopw[10,29] (Rn w qb sb rb Q its r0) (λ_ i _=>N-(intOf i).toNat)
  case atStart=>
   refine⟨0,bgi _,rfl,m,_,l,[],HA.out.2.2.2.2.2.2.1,Tn.out (by trivial),bfx _,HI2.out⟩
  case round=>
   obtain⟨i,hi,rfl,m1,TR,l1,ol,hr1,hok,hol,hI⟩:=hrel;rw[<-HA.out.2.2.2.2.2.1]at hi;obtain⟨sa1,TT,rfl,hz1,hz2⟩:=hI.2.2.2.1.form;obtain⟨oa,oc,rfl,hz3,Az⟩:=hI.2.2.2.2.2.1.form;have HO:=Lh (bfy hr1 (bfy hok (bfy hol hI)));clear hz1 hz2 hz3 Az hr1 hok hol hI;by_cases hlt:i<N
   ·have hi0:(0:Int)<=(i:Int)/\(i:Int)<(N:Int):=by omega
    obtain⟨x,pa,Tu,hx,hsa,c0,c1,c2,c3⟩:=(HA.out.2.2.2.1.below HO.out.2.2.2.2.2.2.2.2.2.2).get (t:=i) (by rw[<-HA.out.2.2.2.2.2.1];exact hlt)
    subst hsa;have HX:Hid (its[i]? =some x/\i<N/\x.key.length<=1000000):=Lh ⟨hx,hlt,HA.out.2.2.2.2.1 x (bf3 hx)⟩;clear hx hi hlt;obtain⟨x_,hxe⟩:=Nm (x:bN);rw[<-hxe]at HX;obtain⟨TB,xk,xt,xv⟩:=x;simp only at c0 c1 c2 c3;go_upto_region 6 with(fail);refine bg4 ?_
    iterate 15 go_step
    refine bg6 rfl _ _ _ rfl wr.heap.size (bN.mk TB xk xt xv).cells rfl rfl 42 #[.int .i64 0,.string ⟨#[]⟩,.int .i64 0,.int .i64 0] (bg5 wr _) tL rfl (wN _) ?_;obtain⟨wx,hwx⟩:=Nm ((wr.alloc (Obj.cells #[.int .i64 0,.string ⟨#[]⟩,.int .i64 0,.int .i64 0] 42)).setRow wr.heap.size (bN.mk TB xk xt xv).cells);obtain⟨xb,hxb⟩:=Nm (wr.heap.size);have Sn:Hid (jy wx xb x_/\F3 w qb sb rb Q m1 (.slice sa1 l1.length TT) l1 (.slice oa ol.length oc) ol wx):=by
     have k2:Bw wr wx:=by
      rw[hwx];exact((Below.refl _ wr).alloc (bfx _) _).trans ⟨rfl,rfl,rfl,by simp[World.setRow],λk hk=>setRow_other _ _ _ _ (by omega)⟩
     refine Lh ⟨?_,HO.out.2.2.2.below k2⟩;rw[hwx,hxb,hxe];exact setRow_heap _ _ _ _ _ _ (bg5 wr _)
    rw[<-hwx,<-hxb];clear hwx hxb c0 c1 c2 c3;have Vu:Hid (∀w',jy w' xb x_->DX w' xb TB xk xt xv):=by rw[hxe];exact Lh (λw' h=>h.dx)
    have uw:Hid (Calls prog 21 #[.agg #[.int .i64 kind,.int .i64 size,.int .i64 slide,.int .i64 late,.int .i64 agg,.int .i64 kq],.agg #[.int .i64 m1,.slice sa1 l1.length TT],.agg #[.int .i64 TB,Sv xk,.int .i64 xt,.int .i64 xv]] wx (jf wx (dR Q ⟨m1,l1.map bn.p⟩ x_).1 (dR Q ⟨m1,l1.map bn.p⟩ x_).2.1 (dR Q ⟨m1,l1.map bn.p⟩ x_).2.2)):=by
     have h:=Vl.out wx m1 _ l1 x_ Sn.out.2.2.2.2.1 Sn.out.2.2.2.2.2.1 HO.out.2.1 HX.out.2.2;rw[hxe]at h ⊢;exact Lh h
    clear hxe;obtain⟨d0,d1,d2,d3,d4,d5⟩:=SV.out wx Sn.out.2.1;obtain⟨e0,e1⟩:=Sn.out.2.2.1.d2;obtain⟨x0,x1,x2,x3⟩:=Vu.out wx Sn.out.1;go_upto_region 7 with(fail);refine bg4 ?_
    iterate 9 go_step
    refine wpList_plain rfl λK' hK'=>?_;go_step;refine uw.out.mono ?_;rintro e w5 ⟨sv,ov2,rfl,⟨T9,l2,rfl,hP1,hP2,hP3⟩,⟨XI,oo,TH,rfl,aY,hO2,hO3,hO4⟩,hB⟩;refine hK' _ _ ?_;clear hK' d0 d1 d2 d3 d4 d5 e0 e1 x0 x1 x2 x3;obtain⟨S2,hS2⟩:=Nm (dR Q ⟨m1,l1.map bn.p⟩ x_);rw[<-hS2]at hP3 hO4;rw[<-hS2];obtain⟨m2,hm2⟩:=Nm (S2.1.mark);obtain⟨er,her⟩:=Nm (S2.2.2);rw[<-hm2,<-her];have HS:Hid (er=(dR Q ⟨m1,l1.map bn.p⟩ x_).2.2/\(⟨m2,l2.map bn.p⟩:di)=(dR Q ⟨m1,l1.map bn.p⟩ x_).1/\TH.map bM.o=(dR Q ⟨m1,l1.map bn.p⟩ x_).2.1/\TH.length<=256):=by
     rw[<-hS2];refine Lh ⟨her,by rw[hm2,<-hP3],hO4.symm,?_⟩
     have h:=vS (q:=Q) (s:=⟨m1,l1.map bn.p⟩) (x:=x_) (n:=256) HO.out.2.1.2.2 (by decide)
     rw[<-hS2,hO4,bfz]at h;exact h
    obtain⟨TS,TU,rfl,hz1,hz2⟩:=hP1.form;have H5:Hid (F3 w qb sb rb Q m1 (.slice sa1 l1.length TT) l1 (.slice oa ol.length oc) ol w5/\bO w5 (.slice TS l2.length TU) l2/\(∀y∈l2,bR w5 y)/\gH w5 XI TH/\(∀y∈TH,dO w5 y)):=Lh ⟨Sn.out.2.below hB,hP1,hP2,hO2,hO3⟩;clear hP1 hP2 hP3 aY hO2 hO3 hO4 hB hS2 hm2 her hz1 hz2 Sn uw
    iterate 15 go_step
    refine bg6 rfl _ _ _ rfl w5.heap.size #[.int .i64 m2,.slice TS l2.length TU] rfl rfl 29 #[.int .i64 0,bS] (bg5 w5 _) bF rfl (cB rfl) ?_;obtain⟨w6,SN⟩:=Nm ((w5.alloc (Obj.cells #[.int .i64 0,.slice none 0 0] 29)).setRow w5.heap.size #[.int .i64 m2,.slice TS l2.length TU]);obtain⟨tb,htb⟩:=Nm (w5.heap.size);have H6:Hid (F3 w qb sb rb Q m1 (.slice sa1 l1.length TT) l1 (.slice oa ol.length oc) ol w6/\bO w6 (.slice TS l2.length TU) l2/\(∀y∈l2,bR w6 y)/\gH w6 XI TH/\(∀y∈TH,dO w6 y)/\bT w6 tb m2 (.slice TS l2.length TU)/\(rb<tb/\(Value.slice oa ol.length oc).ownBlock≠some tb)):=by
     obtain⟨k1,k2⟩:=jH w5 m2 (.slice TS l2.length TU);have e:w6=(w5.alloc (Obj.cells #[.int .i64 0,bS] 29)).setRow w5.heap.size #[.int .i64 m2,.slice TS l2.length TU]:=SN;rw[<-e,<-htb]at k1;rw[<-e]at k2;obtain⟨j1,j2,j3,j4,j5⟩:=H5.out;exact Lh ⟨j1.below k2,j2.below k2,λy hy=>(j3 y hy).below k2,j4.below k2,λy hy=>(j5 y hy).below k2,k1,by rw[htb];exact j1.2.2.1.lt,λe=>by have:=j1.2.2.2.2.2.1.lt e;omega⟩
    rw[<-SN,<-htb];clear SN htb H5;by_cases he:er=0
    ·subst he;go_upto_region 10 with(fail);have Hd:Hid (F3 w qb sb rb Q m1 (.slice sa1 l1.length TT) l1 (.slice oa ol.length oc) ol w6.drew/\bO w6.drew (.slice TS l2.length TU) l2/\(∀y∈l2,bR w6.drew y)/\gH w6.drew XI TH/\(∀y∈TH,dO w6.drew y)/\bT w6.drew tb m2 (.slice TS l2.length TU)/\(rb<tb/\(Value.slice oa ol.length oc).ownBlock≠some tb)):=by
      obtain⟨j1,j2,j3,j4,j5,j6,j7⟩:=H6.out;have hB:=(Below.refl w6.heap.size w6).drew;exact Lh ⟨j1.below hB,j2.below hB,λy hy=>(j3 y hy).below hB,j4.below hB,λy hy=>(j5 y hy).below hB,j6.below hB,j7⟩
     have SB:Hid (R8 w qb sb rb tb Q m1 (.slice sa1 l1.length TT) m2 (.slice TS l2.length TU) l2 w6.drew 0 w6.drew):=by
      obtain⟨⟨j1,j2,j3,j4,j5,j6,j7,j8⟩,p1,p2,p3,p4,p5,p6⟩:=Hd.out;exact Lh ⟨⟨j1,j2,j3,p5,p1,p2,j8⟩,λ_=>rfl⟩
     refine dZ (λi=>([]:List Nat).contains i) (by kernel_rfl) [none,none,none,some 0,some 1,none] [3,4] (DT (([.agg #[.int .i64 m2,.slice TS l2.length TU],.slice oa ol.length oc,.slice XI TH.length oo,undef,undef,undef]:List Value)) (Q7 (rb+1) (ol++TH))) (R8 w qb sb rb tb Q m1 (.slice sa1 l1.length TT) m2 (.slice TS l2.length TU) l2 w6.drew) (λw w'=>w'=w) (lX _ _ QK) (by kernel_rfl) (by kernel_rfl) (by kernel_rfl) SB.out (λ_=>⟨rfl,rfl,rfl,rfl,rfl,rfl,trivial⟩) (λ_ h=>by simp at h) ?_ ?_
     ·refine ⟨?_,?_,?_,?_,?_,?_,trivial⟩<;>(first|(intro _ k_ a w' hG Si Sj K hK;guard_hyp w':World)|intro _ a w' hG Si Sj K hK)<;>replace Si:=Lh Si<;>replace Sj:=Lh Sj
      ·have YR:=FaA Si 13 tb 0;obtain⟨e0,e1⟩:=hG.1.2.2.2.1.d2;go_step;exact hK _ _ rfl hG rfl
      ·have XV:=FoA Si 10 (.slice oa ol.length oc);go_step;exact hK _ _ rfl hG rfl
      ·have Ww:=FoA Si 14 (.slice XI TH.length oo);go_step;exact hK _ _ rfl hG rfl
      ·obtain ⟨p0,p1,_⟩:=Sj.out;have UA:=(show a.eval (.tmp 50)=.slice oa ol.length oc from p0);have r51:=(show a.eval (.tmp 51)=.slice XI TH.length oo from p1);have ew:=hG.2 rfl;subst ew;refine rF (.tmp 50) (.tmp 51) rfl (rb+1) _ ol TH UA Hd.out.1.2.2.2.2.2.1 XI oo _ rfl r51 Hd.out.2.2.2.1 (by have:=HO.out.2.2.1;have:=HX.out.2.1;have:=HS.out.2.2.2;omega) (by have:=Hd.out.1.2.2.1.lt;omega) ?_
       intro v' w'' k1 k2 k3;have S9:=Hd.out.1.2.2.2.2.2.1;have hne:∀b,b<=rb->some b≠(Value.slice oa ol.length oc).ownBlock:=λb hb e=>by have:=S9.lt e.symm;omega
       have hb:=SA.out;obtain⟨⟨j1,j2,j3,j4,j5,j6,j7,j8⟩,p1,p2,p3,p4,p5,p6,p7⟩:=Hd.out;exact hK v' w'' ⟨bfx _,k1,λy hy=>by rcases List.mem_append.1 hy with hy | hy;exact bA.ww (j7 y hy) S9 k2;exact bA.ww (p4 y hy) S9 k2⟩ ⟨⟨dz k2 j1 (hne qb (by omega)),by rw[if_pos (by decide),if_pos (by decide)];exact dz k2 j2 (hne sb (by omega)),dz k2 j3 (hne rb (by omega)),dz k2 p5 (λe=>p7 e.symm),p1.ww S9 k2,λy hy=>⟨bA.ww (p2 y hy).1 S9 k2,(p2 y hy).2⟩,j8.trans ⟨k2.os,k2.tape,k2.output,k2.size,λk hk=>k2.block k (by have:=j8.size;omega) (hne k (by omega))⟩⟩,λe=>absurd e (by decide)⟩ (gN _ Li)
      ·obtain ⟨p0,_⟩:=Sj.out;have r4:=((Si.out 4 rfl).trans (show _=.pointer (some ⟨sb,0,none⟩)from rfl));have r49:=(show a.eval (.tmp 49)=.agg #[.int .i64 m2,.slice TS l2.length TU]from p0);obtain⟨⟨j1,j2,j3,j4,j5,j6,j7⟩,_⟩:=hG;rw[if_pos (by decide),if_pos (by decide)]at j2
       have hb:=SA.out;have htb:=Hd.out.2.2.2.2.2.2.1;refine wp_store_row _ (.tmp 4) (.tmp 49) rfl sb #[.int .i64 m2,.slice TS l2.length TU] r4 r49 _ _ j2 bF rfl (cB rfl) ?_;have hg:w'.grownBy (w'.setRow sb #[.int .i64 m2,.slice TS l2.length TU]) (some sb):=bC _ _ _;exact hK _ _ rfl ⟨⟨dz hg j1 (by simp;omega),by rw[if_neg (by decide),if_neg (by decide)];exact j2.reset m2 _,dz hg j3 (by simp;omega),dz hg j4 (by simp;omega),j5.store j2 hg,λy hy=>(j6 y hy).kJ j2 hg,j7.trans (bG hg (by omega) j7.size)⟩,λe=>absurd e (by decide)⟩ (gN _ (Nu (by omega) j2 hg))
      obtain ⟨p0,_⟩:=Sj.out;obtain⟨hf1,hf2,hf3⟩:=(show 1<=k_/\fe w' (rb+1) (a.eval (.tmp 52)) (ol++TH)/\∀y∈ol++TH,dO w' y from p0);obtain⟨v5,hv5⟩:∃v,a.eval (.tmp 52)=v:=⟨_,rfl⟩;rw[hv5]at hf2;have AV:=bf hv5;go_step;exact hK _ _ ⟨hf1,hf2,hf3⟩ hG rfl
     intro vs w8 hG hlen hV
     match vs,hlen,hV with
     | [v0,v1,v2,v3,v4,v5],_,hV=>
      obtain⟨_,hf1,hf2⟩:=(show 1<=2/\fe w8 (rb+1) v5 (ol++TH)/\∀y∈ol++TH,dO w8 y from hV 5 10 v5 rfl rfl);obtain⟨⟨j1,j2,j3,j4,j5,j6,j7⟩,_⟩:=hG;rw[if_neg (by decide),if_neg (by decide)]at j2
      clear hV;have HZ:Hid (F3 w qb sb rb Q m2 (.slice TS l2.length TU) l2 v5 (ol++TH) w8):=Lh ⟨j1,j2,j3,j5,j6,hf1,hf2,j7⟩;clear hf1 hf2 j1 j2 j3 j4 j5 j6 j7;simp only[dG,bf7,bf1];simp only[Act.put,bfw,bfu,bfv];go_wp2_with(fail);refine⟨⟨i+1,by rw[<-HA.out.2.2.2.2.2.1];exact HX.out.2.1,rfl,m2,_,l2,ol++TH,?_,?_,by rw[bft];have:=HO.out.2.2.1;have:=HS.out.2.2.2;omega,HZ.out⟩,by rw[dU,dU];have:=HX.out.2.1;omega⟩
      ·have h:=K7 HO.out.1 HX.out.1;rw[if_pos HS.out.1.symm,<-HS.out.2.1,<-HS.out.2.2.1]at h;rw[h,bgl];rfl
      have h:=BP HO.out.2.1 HX.out.2.2 HS.out.1.symm;rw[<-HS.out.2.1]at h;exact h
    have he':(er==0)=false:=by simpa using he
    have HE:Hid (r0=⟨⟨m1,l1.map bn.p⟩,ol.map bM.o,(i:Int),er⟩):=by
     have h:=K7 HO.out.1 HX.out.1;rw[if_neg (by rw[<-HS.out.1];exact he),<-HS.out.1]at h
     exact Lh h
    obtain⟨e0,e1⟩:=H6.out.1.2.1.d2;go_upto_region 9 with(fail);have uH:=Lh (Sl.out (.inr (by trivial)))
    refine bg4 ?_
    iterate 3 go_step
    refine wpList_plain rfl λK' hK'=>?_;go_step;refine(V6.out w6 m1 (.slice sa1 l1.length TT) l1 H6.out.1.2.2.2.1 H6.out.1.2.2.2.2.1 (HO.out.2.1.sorted (by decide)).1).mono ?_
    rintro e wk ⟨sv,rfl,⟨Ty,lk,rfl,hP1,hP2,hP3⟩,hB⟩;refine hK' _ _ ?_;have HK:=Lh (bfy (H6.out.1.below hB) (bfy hP1 (bfy hP2 hP3)));clear hK' hB hP1 hP2 hP3 e0 e1
    iterate 9 go_step
    refine bg6 rfl _ _ _ rfl rb #[.int .i64 m1,Ty] rfl rfl 29 #[.int .i64 0,bS] HK.out.1.2.2.1 bF rfl (cB HK.out.2.1.one) ?_;obtain⟨wz,hwz⟩:=Nm (wk.setRow rb #[.int .i64 m1,Ty]);have HZ:Hid (bT wz rb m1 Ty/\P (.returned (.tuple #[.agg #[.int .i64 m1,Ty],(.slice oa ol.length oc),.int .i64 (i:Int),.int .i64 er])) wz):=by
     have hg:wk.grownBy wz (some rb):=by rw[hwz];exact bC _ _ _
     obtain⟨⟨j1,j2,j3,j4,j5,j6,j7,j8⟩,k1,k2,k3⟩:=HK.out;have hb:=SA.out;have S9:=lg (B:=rb+1) (by omega) j3 hg ⟨j6,j7⟩
     obtain⟨Vx,Vy,hv',hc',Ta⟩:=S9.1.form;have hS:gW wz (.agg #[.int .i64 m1,Ty]) ⟨m1,(l1).map bn.p⟩:=⟨Ty,lk,rfl,k1.store j3 hg,λy hy=>(k2 y hy).kJ j3 hg,k3⟩;have hO:fw wz (.slice oa ol.length oc) ((ol).map bM.o):=⟨Vx,Vy,ol,hv',hc',Ta,S9.2,rfl⟩;have TW:=j8.trans (bG hg (by omega) j8.size)
     exact Lh ⟨by rw[hwz];exact j3.reset m1 _,by have h:=uH.out wz _ (.slice oa ol.length oc) (by rw[HE.out];exact hS) (by rw[HE.out];exact hO) TW;rw[HE.out]at h;exact h⟩
    rw[<-hwz];clear hwz;go_wp2_with(fail);exact bodyPost_ret (v:=.tuple #[.agg #[.int .i64 m1,Ty],(.slice oa ol.length oc),.int .i64 (i:Int),.int .i64 er]) ((ja (p:=6) (s:=7) (u:=8) (t3:=9) (ty:=29) rfl _ _ rb 29 #[.int .i64 m1,Ty] (0,0) _ rfl HZ.out.1 underlying29 rfl bF).trans rfl) rfl HZ.out.2
   obtain rfl:i=N:=by omega
   have HE:=Lh (Ps HO.out.1 (by rw[<-HA.out.2.2.2.2.2.1];omega))
   clear hlt hi;obtain⟨e0,e1⟩:=HO.out.2.2.2.2.1.d2;go_upto_region 12 with(fail);have uH:=Lh (Sl.out (.inr (by trivial)))
   refine bg4 ?_
   iterate 3 go_step
   refine wpList_plain rfl λK' hK'=>?_;go_step;refine(V6.out wr m1 (.slice sa1 l1.length TT) l1 HO.out.2.2.2.2.2.2.1 HO.out.2.2.2.2.2.2.2.1 (HO.out.2.1.sorted (by decide)).1).mono ?_
   rintro e wk ⟨sv,rfl,⟨Ty,lk,rfl,hP1,hP2,hP3⟩,hB⟩;refine hK' _ _ ?_;have HK:=Lh (bfy (HO.out.2.2.2.below hB) (bfy hP1 (bfy hP2 hP3)));clear hK' hB hP1 hP2 hP3 e0 e1
   iterate 9 go_step
   refine bg6 rfl _ _ _ rfl rb #[.int .i64 m1,Ty] rfl rfl 29 #[.int .i64 0,bS] HK.out.1.2.2.1 bF rfl (cB HK.out.2.1.one) ?_;obtain⟨wz,hwz⟩:=Nm (wk.setRow rb #[.int .i64 m1,Ty]);have HZ:Hid (bT wz rb m1 Ty/\P (.returned (.tuple #[.agg #[.int .i64 m1,Ty],(.slice oa ol.length oc),.int .i64 (i:Int),.int .i64 0])) wz):=by
    have hg:wk.grownBy wz (some rb):=by rw[hwz];exact bC _ _ _
    obtain⟨⟨j1,j2,j3,j4,j5,j6,j7,j8⟩,k1,k2,k3⟩:=HK.out;have hb:=SA.out;have S9:=lg (B:=rb+1) (by omega) j3 hg ⟨j6,j7⟩
    obtain⟨Vx,Vy,hv',hc',Ta⟩:=S9.1.form;have hS:gW wz (.agg #[.int .i64 m1,Ty]) ⟨m1,(l1).map bn.p⟩:=⟨Ty,lk,rfl,k1.store j3 hg,λy hy=>(k2 y hy).kJ j3 hg,k3⟩;have hO:fw wz (.slice oa ol.length oc) ((ol).map bM.o):=⟨Vx,Vy,ol,hv',hc',Ta,S9.2,rfl⟩;have TW:=j8.trans (bG hg (by omega) j8.size)
    exact Lh ⟨by rw[hwz];exact j3.reset m1 _,by have h:=uH.out wz _ (.slice oa ol.length oc) (by rw[HE.out];exact hS) (by rw[HE.out];exact hO) TW;rw[HE.out]at h;exact h⟩
   rw[<-hwz];clear hwz;go_wp2_with(fail);exact bodyPost_ret (v:=.tuple #[.agg #[.int .i64 m1,Ty],(.slice oa ol.length oc),.int .i64 (i:Int),.int .i64 0]) ((ja (p:=6) (s:=7) (u:=8) (t3:=9) (ty:=29) rfl _ _ rb 29 #[.int .i64 m1,Ty] (0,0) _ rfl HZ.out.1 underlying29 rfl bF).trans rfl) rfl HZ.out.2
def Qr(w:World)(ws:List bg)(s v:Value)(wr:World):Prop:=∃i:Nat,i<=ws.length/\v=.int .i64 (i:Int)/\cK wr w.heap.size s (ws.take i)/\Bw w wr
theorem qf(w:World)(sa:Option Addr)(sc:Nat)(l:List bn)(hA:dI w sa l)(hn:l.length<=1000):
  Calls prog 77 #[.slice sa l.length sc] w (jU w (l.map λx=>x.p.w)):=by
 obtain⟨n,hN⟩:=Nm (l.length);obtain⟨ws,hws⟩:=Nm (l.map λx=>x.p.w);obtain⟨P,hP⟩:=Nm (jU w ws);rw[<-hws,<-hP,<-hN];have hwl:ws.length=n:=by rw[hws,bfz,hN]
 have Sl:Hid (∀wz v,cK wz w.heap.size v ws->Bw w wz->P (.returned v) wz):=Lh (λwz v h hB=>by rw[hP];exact⟨_,rfl,h,hB⟩)
 have HA:=Lh hA;have Tx:n<=1000:=by omega
 have HN:Hid (n=l.length/\ws.length=n):=Lh ⟨hN,hwl⟩;have HW:Hid (∀(i:Nat) (x:bn),l[i]? =some x->ws.take (i+1)=ws.take i++[x.p.w]):=Lh (λi x h=>by rw[List.take_add_one,hws,bgf,h];rfl)
 clear hN hA hn hP hws hwl;go_enter func77,ntmps77;go_wp2_with(fail);go_loopw[3,8] (Qr w ws) (λ_ v _=>n-(intOf v).toNat)
 case atStart=>exact⟨0,bgi _,rfl,cK.nil _ _,Br⟩
 case round=>
  obtain⟨i,hi,rfl,hO,hB⟩:=hrel;rw[HN.out.2]at hi;have HO:=Lh (bfy hO hB);clear hO hB;obtain⟨vb,hvb⟩:=Nm u3;subst hvb;by_cases hlt:i<n
  ·have hi0:(0:Int)<=(i:Int)/\(i:Int)<(n:Int):=by omega
   obtain⟨x,pa,oa,hx,hsa,c0,c1,c2,c3,c4,c5,c6,c7⟩:=(HA.out.below HO.out.2).get (t:=i) (by rw[<-HN.out.1];exact hlt)
   subst hsa;have HX:=Lh (HW.out i x hx);have HI:=Lh (bfy hlt hi);clear hx hi hlt;obtain⟨⟨⟨xk,xl,xh⟩,⟨xn,xa,xt,xu,xv⟩,xr⟩,Su,xz,Sw,Sz⟩:=x;simp only at c0 c1 c2 c3 c4 c5 c6 c7;go_upto_region 4 with(fail);refine bg4 ?_
   iterate 9 go_step
   refine bg6 rfl _ _ _ rfl wr.heap.size (bn.mk ⟨⟨xk,xl,xh⟩,⟨xn,xa,xt,xu,xv⟩,xr⟩ Su xz Sw Sz).cells rfl rfl 55 cO.cells (bg5 wr _) fo rfl (fG _) ?_;obtain⟨wx,hwx⟩:=Nm ((wr.alloc (Obj.cells #[.string ⟨#[]⟩,.int .i64 0,.int .i64 0,.int .i64 0,.int .i64 0,.slice none 0 0,.complex .f64 0 0,.int .i64 0] 55)).setRow wr.heap.size (bn.mk ⟨⟨xk,xl,xh⟩,⟨xn,xa,xt,xu,xv⟩,xr⟩ Su xz Sw Sz).cells);obtain⟨xb,hxb⟩:=Nm (wr.heap.size);have Sn:Hid (cz wx xb (bn.mk ⟨⟨xk,xl,xh⟩,⟨xn,xa,xt,xu,xv⟩,xr⟩ Su xz Sw Sz)/\Bw wr wx):=by
    obtain⟨k1,k2⟩:=fO wr (bn.mk ⟨⟨xk,xl,xh⟩,⟨xn,xa,xt,xu,xv⟩,xr⟩ Su xz Sw Sz);rw[hwx,hxb];exact Lh ⟨k1,k2⟩
   have HXB:Hid (wr.heap.size<=xb):=Lh (by omega)
   rw[<-hwx,<-hxb];clear hwx hxb c0 c1 c2 c3 c4 c5 c6 c7;have Te:Hid (cK wx w.heap.size vb (ws.take i)/\Bw w wx):=Lh ⟨HO.out.1.far Sn.out.2,HO.out.2.trans (Sn.out.2.mono HO.out.2.size)⟩;obtain⟨e0,e1,e2,_⟩:=Sn.out.1.d8;go_upto_region 5 with(fail);refine bg4 ?_
   iterate 9 go_step
   refine fE rfl (.tmp 14) rfl ⟨xk,xl,xh⟩ rfl ?_;obtain⟨w8,hw8⟩:=Nm (wx.alloc (.cells (bg.mk xk xl xh).cells 47));obtain⟨gb,hgb⟩:=Nm (wx.heap.size);have H8:Hid (cK w8 w.heap.size vb (ws.take i)/\Bw w w8/\(∀j z,(bg.mk xk xl xh).cells[j]? =some z->w8.cell? ⟨gb,j,none⟩=some z)):=by
    have hB:Bw wx w8:=by rw[hw8];exact(Below.refl _ wx).alloc (bfx _) _
    refine Lh ⟨Te.out.1.far hB,Te.out.2.trans (hB.mono Te.out.2.size),λj z hz=>?_⟩;rw[hw8,hgb,cell_of_row _ _ _ _ _ _ (bg5 wx _)];exact hz
   rw[<-hw8,<-hgb];clear hw8 hgb e0 e1 e2;refine jZ rfl (.tmp 12) (.tmp 15) rfl w.heap.size vb (ws.take i) rfl H8.out.1 ⟨xk,xl,xh⟩ gb rfl H8.out.2.2 (by have:=HI.out.1;rw[bga];omega) H8.out.2.1.size ?_
   intro v' w9 g1 g2 g3;have H9:Hid (Qr w ws v' (.int .i64 ((i:Int)+1)) w9):=by
    refine Lh ⟨i+1,by have:=HI.out.1;have:=HN.out.2;omega,by go_num,by rw[HX.out];exact g1,H8.out.2.1.trans (cK.below H8.out.1 g2 H8.out.2.1.size)⟩
   clear g1 g2 g3;have SX:=Lh HI.out.1;go_wp2_with(fail);go_roundw
   case rel=>exact H9.out
   case measure=>have:=SX.out;simp[intOf];omega
  obtain rfl:i=n:=by omega
  have HZ:Hid (P (.returned vb) wr):=by
   have h:=HO.out.1;rw[<-HN.out.2,bgs]at h;exact Lh (Sl.out _ _ h HO.out.2)
  clear hlt hi HO;go_wp2_with(fail);exact HZ.out
theorem tX(w:World)(sa:Option Addr)(sc:Nat)(l:List bg)(x:bg)(hA:dF w sa l)(hn:l.length<=1000):
  Calls prog 74 #[.slice sa l.length sc,.agg x.cells] w (bE w (.bool (decide (x∈l)))):=by
 obtain⟨n,hN⟩:=Nm (l.length);obtain⟨r,hr⟩:=Nm (decide (x∈l));obtain⟨P,hP⟩:=Nm (bE w (.bool r));rw[<-hr,<-hP,<-hN];have Sl:Hid (∀wz b,b=r->Bw w wz->P (.returned (.bool b)) wz):=Lh (λwz b h hB=>by rw[hP,h];exact⟨rfl,hB⟩)
 have HA:=Lh hA;have Tx:n<=1000:=by omega
 have HN:Hid (n=l.length/\r=decide (x∈l)):=Lh ⟨hN,hr⟩;obtain⟨w1,hw1⟩:=Nm (w.alloc (.cells x.cells 47));obtain⟨xb,hxb⟩:=Nm (w.heap.size);have H1:Hid (bZ w1 xb x/\Bw w w1):=by
  rw[hw1,hxb];exact Lh ⟨bg5 w _,(Below.refl _ w).alloc (bfx _) _⟩
 clear hN hA hn hP hr;obtain⟨X,hX⟩:=Nm x;rw[<-hX]at H1 HN;obtain⟨xk,xl,xh⟩:=x;have Vu:Hid (∀w',bZ w' xb X->w'.cell? ⟨xb,0,none⟩=some (Sv xk)/\w'.cell? ⟨xb,1,none⟩=some (.int .i64 xl)/\w'.cell? ⟨xb,2,none⟩=some (.int .i64 xh)):=by
  rw[hX];exact Lh (λw' h=>h.d3)
 have SY:=Lh hX;clear hX;unfold bg.cells at hw1 ⊢;simp only at hw1 ⊢;go_enter func74,ntmps74;go_upto_region 1 with(fail);rw[<-hw1,<-hxb];clear hw1 hxb;go_wp2_with(fail);go_loopw[9] (λv wr=>∃i:Nat,i<=n/\v=.int .i64 (i:Int)/\X ∉ l.take i/\Bw w1 wr) (λv _=>n-(intOf v).toNat)
 case atStart=>exact⟨0,bgi _,rfl,by simp,Br⟩
 case round=>
  obtain⟨i,hi,rfl,hno,hB⟩:=hrel;have HO:=Lh (bfy hno hB);clear hno hB;by_cases hlt:i<n
  ·have hi0:(0:Int)<=(i:Int)/\(i:Int)<(n:Int):=by omega
   obtain⟨y,pa,po,hy,hsa,c0,c1,c2⟩:=(HA.out.below (H1.out.2.trans (HO.out.2.mono H1.out.2.size))).get (t:=i) (by rw[<-HN.out.1];exact hlt)
   subst hsa;have HY:=Lh (bfy hy hlt);obtain⟨Y,hY⟩:=Nm y;rw[<-hY]at HY;obtain⟨yk,yl,yh⟩:=y;simp only at c0 c1 c2;clear hy hlt hi;go_upto_region 3 with(fail);refine bg4 ?_
   iterate 9 go_step
   refine bg6 rfl _ _ _ rfl wr.heap.size (bg.mk yk yl yh).cells rfl rfl 47 bX.cells (bg5 wr _) dh rfl (dH _) ?_;obtain⟨W1,hwx⟩:=Nm ((wr.alloc (Obj.cells #[.string ⟨#[]⟩,.int .i64 0,.int .i64 0] 47)).setRow wr.heap.size (bg.mk yk yl yh).cells);obtain⟨yb,hyb⟩:=Nm (wr.heap.size);have Sn:Hid (bZ W1 yb ⟨yk,yl,yh⟩/\Bw wr W1):=by
    obtain⟨k1,k2⟩:=dW wr (bg.mk yk yl yh);rw[hwx,hyb];exact Lh ⟨k1,k2⟩
   rw[<-hwx,<-hyb];clear hwx hyb c0 c1 c2;have HB1:Hid (Bw w1 W1):=Lh (HO.out.2.trans (Sn.out.2.mono HO.out.2.size));obtain⟨eq,heq⟩:=Nm (decide (Y=X));have hbe:∀w',(binOp .eql 47 (.agg #[Sv yk,.int .i64 yl,.int .i64 yh]) (.agg #[Sv xk,.int .i64 xl,.int .i64 xh])).run prog w'=.ok (.bool eq) w':=λw'=>by
    rw[heq,hY,SY.out];exact(jo w' ⟨yk,yl,yh⟩ ⟨xk,xl,xh⟩).trans (by congr 2;exact Bool.eq_iff_iff.2 ((ku _ _).trans decide_eq_true_iff.symm))
   have hbg:∀w' op o1 o2,(eqGuard op 47 o1 o2 (.agg #[Sv yk,.int .i64 yl,.int .i64 yh]) (.agg #[Sv xk,.int .i64 xl,.int .i64 xh])).run prog w'=.ok () w':=λw' op o1 o2=>fT w' op o1 o2 ⟨yk,yl,yh⟩ ⟨xk,xl,xh⟩;have HE:=Lh heq;clear heq hY;obtain⟨d0,d1,d2⟩:=Vu.out W1 (H1.out.1.below HB1.out);obtain⟨e0,e1,e2⟩:=Sn.out.1.d3;simp only at e0 e1 e2
   cases eq with
   | true=>
    have HZ:Hid (P (.returned (.bool true)) W1):=by
     refine Lh (Sl.out W1 true ?_ (H1.out.2.trans (HB1.out.mono H1.out.2.size)));have he:=bgh HE.out.symm;rw[HN.out.2,bfr];rw[<-he];exact bf3 HY.out.1
    go_wp2_with(fail);exact HZ.out
   | false=>
    have HZ:Hid (∃j:Nat,j<=n/\Value.int .i64 ((i:Int)+1)=.int .i64 (j:Int)/\X ∉ l.take j/\Bw w1 W1):=by
     refine Lh ⟨i+1,HY.out.2,by go_num,?_,HB1.out⟩
     rw[List.take_add_one,HY.out.1,bgg,not_or];refine⟨HO.out.1,λh=>?_⟩;have:X=Y:=by simpa using h
     exact of_decide_eq_false HE.out.symm this.symm
    have SX:=Lh HY.out.2;go_wp2_with(fail);go_roundw
    case rel=>exact HZ.out
    case measure=>have:=SX.out;simp[intOf];omega
  obtain rfl:i=n:=by omega
  have HZ:Hid (P (.returned (.bool false)) wr):=by
   refine Lh (Sl.out wr false ?_ (H1.out.2.trans (HO.out.2.mono H1.out.2.size)));have h:=HO.out.1;rw[HN.out.1,bgs]at h;rw[HN.out.2,bfq h]
  clear hlt hi HO;go_wp2_with(fail);exact HZ.out
def kM(w:World)(l:List bH)(Q:bn->Prop)(e:Ending)(w':World):Prop:=∃v L,e=.returned v/\bY w' w.heap.size v L/\L.map bn.p=l/\(∀y∈L,Q y)/\Bw w w'
def NB(w:World)(ws:List bg)(l:List bn)(s v:Value)(wr:World):Prop:=∃i:Nat,i<=l.length/\v=.int .i64 (i:Int)/\bY wr w.heap.size s ((l.take i).filter λy=> !decide (y.p.w∈ws))/\Bw w wr
theorem qg(w:World)(sa ga:Option Addr)(sc gc:Nat)(l:List bn)(ws:List bg)(hA:dI w sa l)(hG:dF w ga ws)(hn:l.length<=1000)(hm:ws.length<=1000):
  Calls prog 84 #[.slice sa l.length sc,.slice ga ws.length gc] w (kM w (yN ws (l.map bn.p)) (·∈l)):=by
 obtain⟨n,hN⟩:=Nm (l.length);obtain⟨P,hP⟩:=Nm (kM w (yN ws (l.map bn.p)) (·∈l))
 rw[<-hP,<-hN];have Sl:Hid (∀wz v,bY wz w.heap.size v (l.filter λy=> !decide (y.p.w∈ws))->Bw w wz->P (.returned v) wz):=by
  refine Lh (λwz v h hB=>?_);rw[hP];refine⟨v,_,rfl,h,?_,λy hy=>(List.mem_filter.1 hy).1,hB⟩;unfold yN;rw[List.filter_map];rfl
 have HA:=Lh hA;have Tx:n<=1000:=by omega
 have HN:=Lh hN;obtain⟨m,hM⟩:=Nm (ws.length);rw[<-hM];have Iz:Hid (∀w' (x:bg),Bw w w'->Calls prog 74 #[.slice ga m gc,.agg x.cells] w' (bE w' (.bool (decide (x∈ws))))):=by
  rw[hM];exact Lh (λw' x hB=>tX w' ga gc ws x (hG.below hB) hm)
 clear hN hA hn hP hM hG hm;go_enter func84,ntmps84;go_wp2_with(fail);go_loopw[5,10] (NB w ws l) (λ_ v _=>n-(intOf v).toNat)
 case atStart=>exact⟨0,bgi _,rfl,bY.nil _ _,Br⟩
 case round=>
  obtain⟨i,hi,rfl,hO,hB⟩:=hrel;rw[<-HN.out]at hi;have HO:=Lh (bfy hO hB);clear hO hB;obtain⟨vb,hvb⟩:=Nm u5;subst hvb;by_cases hlt:i<n
  ·have hi0:(0:Int)<=(i:Int)/\(i:Int)<(n:Int):=by omega
   obtain⟨x,pa,oa,hx,hsa,c0,c1,c2,c3,c4,c5,c6,c7⟩:=(HA.out.below HO.out.2).get (t:=i) (by rw[<-HN.out];exact hlt)
   subst hsa;have HX:Hid (l.take (i+1)=l.take i++[x]):=Lh (by rw[List.take_add_one,hx];rfl)
   have HI:=Lh (bfy hlt hi);clear hx hi hlt;obtain⟨X,hX⟩:=Nm x;rw[<-hX]at HX;obtain⟨⟨⟨xk,xl,xh⟩,⟨xn,xa,xt,xu,xv⟩,xr⟩,Su,xz,Sw,Sz⟩:=x;simp only at c0 c1 c2 c3 c4 c5 c6 c7;go_upto_region 4 with(fail);refine bg4 ?_
   iterate 9 go_step
   refine bg6 rfl _ _ _ rfl wr.heap.size (bn.mk ⟨⟨xk,xl,xh⟩,⟨xn,xa,xt,xu,xv⟩,xr⟩ Su xz Sw Sz).cells rfl rfl 55 cO.cells (bg5 wr _) fo rfl (fG _) ?_;obtain⟨wx,hwx⟩:=Nm ((wr.alloc (Obj.cells #[.string ⟨#[]⟩,.int .i64 0,.int .i64 0,.int .i64 0,.int .i64 0,.slice none 0 0,.complex .f64 0 0,.int .i64 0] 55)).setRow wr.heap.size (bn.mk ⟨⟨xk,xl,xh⟩,⟨xn,xa,xt,xu,xv⟩,xr⟩ Su xz Sw Sz).cells);obtain⟨xb,hxb⟩:=Nm (wr.heap.size);have Sn:Hid (cz wx xb (bn.mk ⟨⟨xk,xl,xh⟩,⟨xn,xa,xt,xu,xv⟩,xr⟩ Su xz Sw Sz)/\Bw wr wx):=by
    obtain⟨k1,k2⟩:=fO wr (bn.mk ⟨⟨xk,xl,xh⟩,⟨xn,xa,xt,xu,xv⟩,xr⟩ Su xz Sw Sz);rw[hwx,hxb];exact Lh ⟨k1,k2⟩
   have HXB:Hid (wr.heap.size<=xb):=Lh (by omega)
   rw[<-hwx,<-hxb];clear hwx hxb c0 c1 c2 c3 c4 c5 c6 c7;have SY:=Lh hX;clear hX;have Te:Hid (bY wx w.heap.size vb ((l.take i).filter λy=> !decide (y.p.w∈ws))/\Bw w wx):=Lh ⟨HO.out.1.far Sn.out.2,HO.out.2.trans (Sn.out.2.mono HO.out.2.size)⟩;have hc:=Iz.out wx ⟨xk,xl,xh⟩ Te.out.2;obtain⟨bi,hbi⟩:=Nm (decide ((⟨xk,xl,xh⟩:bg)∈ws));rw[<-hbi]at hc;have HC:=Lh hc;have UG:Hid (bi=decide (X.p.w∈ws)):=by rw[SY.out];exact Lh hbi
   clear hc hbi;obtain⟨e0,e1,e2,_⟩:=Sn.out.1.d8;simp only at e0 e1 e2
   cases bi with
   | true=>
    go_wp2_with(fail);refine HC.out.mono ?_;rintro e w3 ⟨rfl,hB⟩;have HZ:Hid (NB w ws l vb (.int .i64 ((i:Int)+1)) w3):=by
     refine Lh ⟨i+1,by have:=HI.out.1;have:=HN.out;omega,by go_num,?_,Te.out.2.trans (hB.mono Te.out.2.size)⟩
     rw[HX.out,List.filter_append,List.filter_cons_of_neg (by rw[<-UG.out];simp),List.filter_nil,bg2]
     exact Te.out.1.far hB
    have SX:=Lh HI.out.1;clear hB e0 e1 e2;dsimp only;go_wp2_with(fail);go_roundw
    case rel=>exact HZ.out
    case measure=>have:=SX.out;simp[intOf];omega
   | false=>
    go_wp2_with(fail);refine HC.out.mono ?_;rintro e w3 ⟨rfl,hB⟩;have H3:Hid (bY w3 w.heap.size vb ((l.take i).filter λy=> !decide (y.p.w∈ws))/\Bw w w3/\cz w3 xb (bn.mk ⟨⟨xk,xl,xh⟩,⟨xn,xa,xt,xu,xv⟩,xr⟩ Su xz Sw Sz)):=Lh ⟨Te.out.1.far hB,Te.out.2.trans (hB.mono Te.out.2.size),Sn.out.1.below hB⟩;clear hB e0 e1 e2;dsimp only;obtain⟨e0,e1,e2,e3,e4,e5,e6,e7⟩:=H3.out.2.2.d8;simp only at e0 e1 e2 e3 e4 e5 e6 e7;go_upto_region 6 with(fail);refine bg4 ?_
    iterate 6 go_step
    refine fD rfl (.tmp 20) rfl (bn.mk ⟨⟨xk,xl,xh⟩,⟨xn,xa,xt,xu,xv⟩,xr⟩ Su xz Sw Sz) rfl ?_;obtain⟨w8,hw8⟩:=Nm (w3.alloc (.cells (bn.mk ⟨⟨xk,xl,xh⟩,⟨xn,xa,xt,xu,xv⟩,xr⟩ Su xz Sw Sz).cells 55));obtain⟨gb,hgb⟩:=Nm (w3.heap.size);have H8:Hid (bY w8 w.heap.size vb ((l.take i).filter λy=> !decide (y.p.w∈ws))/\Bw w w8/\(∀j z,(bn.mk ⟨⟨xk,xl,xh⟩,⟨xn,xa,xt,xu,xv⟩,xr⟩ Su xz Sw Sz).cells[j]? =some z->w8.cell? ⟨gb,j,none⟩=some z)/\Bw w3 w8):=by
     have hB:Bw w3 w8:=by rw[hw8];exact(Below.refl _ w3).alloc (bfx _) _
     refine Lh ⟨H3.out.1.far hB,H3.out.2.1.trans (hB.mono H3.out.2.1.size),λj z hz=>?_,hB⟩;rw[hw8,hgb,cell_of_row _ _ _ _ _ _ (bg5 w3 _)];exact hz
    rw[<-hw8,<-hgb];clear hw8 hgb e0 e1 e2 e3 e4 e5 e6 e7;refine gJ rfl (.tmp 19) (.tmp 21) rfl w.heap.size vb ((l.take i).filter λy=> !decide (y.p.w∈ws)) rfl H8.out.1 (bn.mk ⟨⟨xk,xl,xh⟩,⟨xn,xa,xt,xu,xv⟩,xr⟩ Su xz Sw Sz) gb rfl H8.out.2.2.1 (by have:=HI.out.1;have:=List.length_filter_le (λy=> !decide (y.p.w∈ws)) (l.take i);rw[bga]at this;omega) H8.out.2.1.size ?_
    intro v' w9 g1 g2 g3;have H9:Hid (NB w ws l v' (.int .i64 ((i:Int)+1)) w9):=by
     refine Lh ⟨i+1,by have:=HI.out.1;have:=HN.out;omega,by go_num,?_,H8.out.2.1.trans (bY.below H8.out.1 g2 H8.out.2.1.size)⟩
     rw[HX.out,List.filter_append,List.filter_cons_of_pos (by rw[<-UG.out];rfl),List.filter_nil,SY.out]
     exact g1
    clear g1 g2 g3;have SX:=Lh HI.out.1;go_wp2_with(fail);go_roundw
    case rel=>exact H9.out
    case measure=>have:=SX.out;simp[intOf];omega
  obtain rfl:i=n:=by omega
  have HZ:Hid (P (.returned vb) wr):=by
   have h:=HO.out.1;rw[HN.out,bgs]at h;exact Lh (Sl.out _ _ h HO.out.2)
  clear hlt hi HO;go_wp2_with(fail);exact HZ.out
def KL(w:World)(x:bn)(l:List bn)(s d v:Value)(wr:World):Prop:=∃(i:Nat) (L:List bn),i<=l.length/\v=.int .i64 (i:Int)/\d=.bool (rV x.p ((l.take i).map bn.p))/\bY wr w.heap.size s L/\L.map bn.p=Bb x.p ((l.take i).map bn.p)/\(∀y∈L,y=x∨y∈l)/\Bw w wr
theorem N9(p:bH)(A:List bH):(Bb p A).length<=A.length+1:=by
 unfold Bb
 split
 ·have h:∀A:List bH,(jR A p).length=A.length+1:=by
   intro A
   induction A with
   | nil=>rfl
   | cons y A ih=>
    show(if bJ p.w y.w then p::y::A else y::jR A p).length=_
    split
    ·simp
    rw[bgy,ih,bgy]
  rw[h];omega
 ·omega
theorem wX(w:World)(sa:Option Addr)(sc:Nat)(l:List bn)(x:bn)(hA:dI w sa l)(hn:l.length<=1000):
  Calls prog 83 #[.slice sa l.length sc,.agg x.cells] w (kM w (jR (l.map bn.p) x.p) (λy=>y=x∨y∈l)):=by
 obtain⟨n,hN⟩:=Nm (l.length);obtain⟨P,hP⟩:=Nm (kM w (jR (l.map bn.p) x.p) (λy=>y=x∨y∈l));rw[<-hP,<-hN];obtain⟨w1,hw1⟩:=Nm (w.alloc (.cells x.cells 55));obtain⟨pb,hpb⟩:=Nm (w.heap.size);have H1:Hid (cz w1 pb x/\Bw w w1):=by
  rw[hw1,hpb];exact Lh ⟨bg5 w _,(Below.refl _ w).alloc (bfx _) _⟩
 have Sl:Hid (∀wz v L,bY wz w1.heap.size v L->L.map bn.p=jR (l.map bn.p) x.p->(∀y∈L,y=x∨y∈l)->Bw w1 wz->P (.returned v) wz):=by
  refine Lh (λwz v L h1 h2 h3 hB=>?_);rw[hP];exact⟨v,L,rfl,h1.mono H1.out.2.size,h2,h3,H1.out.2.trans (hB.mono H1.out.2.size)⟩
 have HA:=Lh hA;have Tx:n<=1000:=by omega
 have HN:=Lh hN;clear hN hA hn hP;obtain⟨X,hX⟩:=Nm x;rw[<-hX]at H1 Sl;obtain⟨⟨⟨pk,pl,ph⟩,⟨pn,pa,pt,pu,pv⟩,pr⟩,Xd,pz,Xa,Xb⟩:=x;have SY:=Lh hX;clear hX;unfold bn.cells at hw1 ⊢;simp only at hw1 ⊢;go_enter func83,ntmps83;go_upto_region 1 with(fail);rw[<-hw1,<-hpb];clear hw1 hpb;go_wp2_with(fail);go_loopw[5,6,11] (KL w1 X l) (λ_ _ v _=>n-(intOf v).toNat)
 case atStart=>exact⟨0,[],bgi _,rfl,rfl,bY.nil _ _,rfl,λy hy=>by simp at hy,Br⟩
 case round=>
  obtain⟨i,L,hi,rfl,hd,hO,hL,hm,hB⟩:=hrel;rw[<-HN.out]at hi;obtain⟨d,hdd⟩:=Nm (rV X.p ((l.take i).map bn.p));rw[<-hdd]at hd;subst hd;have hLl:L.length<=i+1:=by
   have h1:=congrArg List.length hL;have h2:=N9 X.p ((l.take i).map bn.p);rw[bfz]at h1 h2;rw[bga]at h2;omega
  have HO:Hid (bY wr w1.heap.size u5 L/\Bw w1 wr/\L.map bn.p=Bb X.p ((l.take i).map bn.p)/\(∀y∈L,y=X∨y∈l)/\d=rV X.p ((l.take i).map bn.p)/\L.length<=i+1):=Lh ⟨hO,hB,hL,hm,hdd,hLl⟩;clear hO hB hL hm hdd hLl;obtain⟨vb,hvb⟩:=Nm u5;subst hvb;by_cases hlt:i<n
  ·have hi0:(0:Int)<=(i:Int)/\(i:Int)<(n:Int):=by omega
   obtain⟨x,pa_,oa,hx,hsa,c0,c1,c2,c3,c4,c5,c6,c7⟩:=(HA.out.below (H1.out.2.trans (HO.out.2.1.mono H1.out.2.size))).get (t:=i) (by rw[<-HN.out];exact hlt)
   subst hsa;obtain⟨Y,hY⟩:=Nm x;have HX:Hid ((l.take (i+1)).map bn.p=(l.take i).map bn.p++[Y.p]/\Y∈l/\i<n):=by
    rw[hY];exact Lh ⟨by rw[List.take_add_one,hx];simp,bf3 hx,hlt⟩
   clear hx hi hlt;obtain⟨⟨⟨xk,xl,xh⟩,⟨xn,xa,xt,xu,xv⟩,xr⟩,Su,xz,Sw,Sz⟩:=x;simp only at c0 c1 c2 c3 c4 c5 c6 c7;go_upto_region 5 with(fail);refine bg4 ?_
   iterate 9 go_step
   refine bg6 rfl _ _ _ rfl wr.heap.size (bn.mk ⟨⟨xk,xl,xh⟩,⟨xn,xa,xt,xu,xv⟩,xr⟩ Su xz Sw Sz).cells rfl rfl 55 cO.cells (bg5 wr _) fo rfl (fG _) ?_;obtain⟨wx,hwx⟩:=Nm ((wr.alloc (Obj.cells #[.string ⟨#[]⟩,.int .i64 0,.int .i64 0,.int .i64 0,.int .i64 0,.slice none 0 0,.complex .f64 0 0,.int .i64 0] 55)).setRow wr.heap.size (bn.mk ⟨⟨xk,xl,xh⟩,⟨xn,xa,xt,xu,xv⟩,xr⟩ Su xz Sw Sz).cells);obtain⟨xb,hxb⟩:=Nm (wr.heap.size);have Sn:Hid (cz wx xb (bn.mk ⟨⟨xk,xl,xh⟩,⟨xn,xa,xt,xu,xv⟩,xr⟩ Su xz Sw Sz)/\Bw wr wx):=by
    obtain⟨k1,k2⟩:=fO wr (bn.mk ⟨⟨xk,xl,xh⟩,⟨xn,xa,xt,xu,xv⟩,xr⟩ Su xz Sw Sz);rw[hwx,hxb];exact Lh ⟨k1,k2⟩
   have HXB:Hid (wr.heap.size<=xb):=Lh (by omega)
   rw[<-hwx,<-hxb];clear hwx hxb c0 c1 c2 c3 c4 c5 c6 c7;have Va:=Lh hY;clear hY;have Te:Hid (bY wx w1.heap.size vb L/\Bw w1 wx):=Lh ⟨HO.out.1.far Sn.out.2,HO.out.2.1.trans (Sn.out.2.mono HO.out.2.1.size)⟩;have SX:=Lh HX.out.2.2
   cases d with
   | true=>
    obtain⟨e0,e1,e2,e3,e4,e5,e6,e7⟩:=Sn.out.1.d8;simp only at e0 e1 e2 e3 e4 e5 e6 e7;go_upto_region 9 with(fail);refine bg4 ?_
    iterate 6 go_step
    refine fD rfl (.tmp 30) rfl (bn.mk ⟨⟨xk,xl,xh⟩,⟨xn,xa,xt,xu,xv⟩,xr⟩ Su xz Sw Sz) rfl ?_;obtain⟨w8,hw8⟩:=Nm (wx.alloc (.cells (bn.mk ⟨⟨xk,xl,xh⟩,⟨xn,xa,xt,xu,xv⟩,xr⟩ Su xz Sw Sz).cells 55));obtain⟨gb,hgb⟩:=Nm (wx.heap.size);have H8:Hid (bY w8 w1.heap.size vb (L)/\Bw w1 w8/\(∀j z,(bn.mk ⟨⟨xk,xl,xh⟩,⟨xn,xa,xt,xu,xv⟩,xr⟩ Su xz Sw Sz).cells[j]? =some z->w8.cell? ⟨gb,j,none⟩=some z)/\Bw wx w8):=by
     have hB:Bw wx w8:=by rw[hw8];exact(Below.refl _ wx).alloc (bfx _) _
     refine Lh ⟨(show _/\Bw w1 wx/\True from⟨Te.out.1,Te.out.2,trivial⟩).1.far hB,(show _/\Bw w1 wx/\True from⟨Te.out.1,Te.out.2,trivial⟩).2.1.trans (hB.mono (show _/\Bw w1 wx/\True from⟨Te.out.1,Te.out.2,trivial⟩).2.1.size),λj z hz=>?_,hB⟩;rw[hw8,hgb,cell_of_row _ _ _ _ _ _ (bg5 wx _)];exact hz
    rw[<-hw8,<-hgb];clear hw8 hgb e0 e1 e2 e3 e4 e5 e6 e7;refine gJ rfl (.tmp 29) (.tmp 31) rfl w1.heap.size vb (L) rfl H8.out.1 (bn.mk ⟨⟨xk,xl,xh⟩,⟨xn,xa,xt,xu,xv⟩,xr⟩ Su xz Sw Sz) gb rfl H8.out.2.2.1 (by have:=HO.out.2.2.2.2.2;have:=HX.out.2.2;omega) H8.out.2.1.size ?_
    intro v' w9 g1 g2 g3;have H9:Hid (KL w1 X l v' (.bool true) (.int .i64 ((i:Int)+1)) w9):=by
     refine Lh ⟨i+1,L++[bn.mk ⟨⟨xk,xl,xh⟩,⟨xn,xa,xt,xu,xv⟩,xr⟩ Su xz Sw Sz],by have:=HX.out.2.2;have:=HN.out;omega,by go_num,?_,g1,?_,λy hy=>?_,H8.out.2.1.trans (bY.below H8.out.1 g2 H8.out.2.1.size)⟩
     ·rw[HX.out.1,sQ,<-HO.out.2.2.2.2.1];rfl
     ·rw[HX.out.1,xR,<-HO.out.2.2.2.2.1,if_neg (λh=>by cases h.1),bgl,HO.out.2.2.1,Va.out]
      rfl
     rcases List.mem_append.1 hy with hy | hy
     ·exact HO.out.2.2.2.1 y hy
     rw[List.mem_singleton.1 hy,<-Va.out];exact .inr HX.out.2.1
    clear g1 g2 g3;go_wp2_with(fail);go_roundw
    case rel=>exact H9.out
    case measure=>have:=SX.out;simp[intOf];omega
   | false=>
    obtain⟨z,hz⟩:=Nm (gG X.p.w Y.p.w);have VI:Hid (∀w',Calls prog 73 #[.agg #[Sv pk,.int .i64 pl,.int .i64 ph],.agg #[Sv xk,.int .i64 xl,.int .i64 xh]] w' (bE w' (.int .i64 z))):=by
     rw[hz,SY.out,Va.out];exact Lh (λw'=>pO w' ⟨pk,pl,ph⟩ ⟨xk,xl,xh⟩)
    have Tw:=Lh hz;clear hz;obtain⟨e0,e1,e2,_⟩:=Sn.out.1.d8;have TY:=H1.out.1.below Te.out.2;rw[SY.out]at TY;obtain⟨d0,d1,d2,_⟩:=TY.d8;simp only at e0 e1 e2 d0 d1 d2;clear TY;by_cases ha:bJ X.p.w Y.p.w
    ·have hzl:z<0:=by rw[Tw.out];exact(gI _ _).2 ha
     have oJ:=Lh ha;clear ha;go_wp2_with(fail);refine(VI.out wx).mono ?_;rintro e w3 ⟨rfl,hB⟩;have H3:Hid (bY w3 w1.heap.size vb L/\Bw w1 w3/\cz w3 xb (bn.mk ⟨⟨xk,xl,xh⟩,⟨xn,xa,xt,xu,xv⟩,xr⟩ Su xz Sw Sz)/\cz w3 pb (bn.mk ⟨⟨pk,pl,ph⟩,⟨pn,pa,pt,pu,pv⟩,pr⟩ Xd pz Xa Xb)):=by
      have h:=(H1.out.1.below Te.out.2).below hB;rw[SY.out]at h;exact Lh ⟨Te.out.1.far hB,Te.out.2.trans (hB.mono Te.out.2.size),Sn.out.1.below hB,h⟩
     clear hB e0 e1 e2 d0 d1 d2;dsimp only;obtain⟨e0,e1,e2,e3,e4,e5,e6,e7⟩:=H3.out.2.2.2.d8;simp only at e0 e1 e2 e3 e4 e5 e6 e7;go_upto_region 7 with(fail);refine bg4 ?_
     iterate 6 go_step
     refine fD rfl (.tmp 26) rfl (bn.mk ⟨⟨pk,pl,ph⟩,⟨pn,pa,pt,pu,pv⟩,pr⟩ Xd pz Xa Xb) rfl ?_;obtain⟨Ef,Zk⟩:=Nm (w3.alloc (.cells (bn.mk ⟨⟨pk,pl,ph⟩,⟨pn,pa,pt,pu,pv⟩,pr⟩ Xd pz Xa Xb).cells 55));obtain⟨gba,eD⟩:=Nm (w3.heap.size);have af:Hid (bY Ef w1.heap.size vb (L)/\Bw w1 Ef/\(∀j z,(bn.mk ⟨⟨pk,pl,ph⟩,⟨pn,pa,pt,pu,pv⟩,pr⟩ Xd pz Xa Xb).cells[j]? =some z->Ef.cell? ⟨gba,j,none⟩=some z)/\Bw w3 Ef):=by
      have hB:Bw w3 Ef:=by rw[Zk];exact(Below.refl _ w3).alloc (bfx _) _
      refine Lh ⟨H3.out.1.far hB,H3.out.2.1.trans (hB.mono H3.out.2.1.size),λj z hz=>?_,hB⟩;rw[Zk,eD,cell_of_row _ _ _ _ _ _ (bg5 w3 _)];exact hz
     rw[<-Zk,<-eD];clear Zk eD e0 e1 e2 e3 e4 e5 e6 e7;refine gJ rfl (.tmp 25) (.tmp 27) rfl w1.heap.size vb (L) rfl af.out.1 (bn.mk ⟨⟨pk,pl,ph⟩,⟨pn,pa,pt,pu,pv⟩,pr⟩ Xd pz Xa Xb) gba rfl af.out.2.2.1 (by have:=HO.out.2.2.2.2.2;have:=HX.out.2.2;omega) af.out.2.1.size ?_
     intro v4 w4 g1 g2 g3;have H4:Hid (bY w4 w1.heap.size v4 (L++[bn.mk ⟨⟨pk,pl,ph⟩,⟨pn,pa,pt,pu,pv⟩,pr⟩ Xd pz Xa Xb])/\Bw w1 w4/\cz w4 xb (bn.mk ⟨⟨xk,xl,xh⟩,⟨xn,xa,xt,xu,xv⟩,xr⟩ Su xz Sw Sz)):=by
      have hbl:=bY.below af.out.1 g2 af.out.2.1.size;exact Lh ⟨g1,af.out.2.1.trans hbl,(H3.out.2.2.1.below af.out.2.2.2).grown g2 (λh=>by
       have:=HO.out.1.lt h.symm;have:=HXB.out;omega)⟩
     clear g1 g2 g3;obtain⟨e0,e1,e2,e3,e4,e5,e6,e7⟩:=H4.out.2.2.d8;simp only at e0 e1 e2 e3 e4 e5 e6 e7;go_upto_region 9 with(fail);refine bg4 ?_
     iterate 6 go_step
     refine fD rfl (.tmp 30) rfl (bn.mk ⟨⟨xk,xl,xh⟩,⟨xn,xa,xt,xu,xv⟩,xr⟩ Su xz Sw Sz) rfl ?_;obtain⟨w8,hw8⟩:=Nm (w4.alloc (.cells (bn.mk ⟨⟨xk,xl,xh⟩,⟨xn,xa,xt,xu,xv⟩,xr⟩ Su xz Sw Sz).cells 55));obtain⟨gb,hgb⟩:=Nm (w4.heap.size);have H8:Hid (bY w8 w1.heap.size v4 (L++[bn.mk ⟨⟨pk,pl,ph⟩,⟨pn,pa,pt,pu,pv⟩,pr⟩ Xd pz Xa Xb])/\Bw w1 w8/\(∀j z,(bn.mk ⟨⟨xk,xl,xh⟩,⟨xn,xa,xt,xu,xv⟩,xr⟩ Su xz Sw Sz).cells[j]? =some z->w8.cell? ⟨gb,j,none⟩=some z)/\Bw w4 w8):=by
      have hB:Bw w4 w8:=by rw[hw8];exact(Below.refl _ w4).alloc (bfx _) _
      refine Lh ⟨H4.out.1.far hB,H4.out.2.1.trans (hB.mono H4.out.2.1.size),λj z hz=>?_,hB⟩;rw[hw8,hgb,cell_of_row _ _ _ _ _ _ (bg5 w4 _)];exact hz
     rw[<-hw8,<-hgb];clear hw8 hgb e0 e1 e2 e3 e4 e5 e6 e7;refine gJ rfl (.tmp 29) (.tmp 31) rfl w1.heap.size v4 (L++[bn.mk ⟨⟨pk,pl,ph⟩,⟨pn,pa,pt,pu,pv⟩,pr⟩ Xd pz Xa Xb]) rfl H8.out.1 (bn.mk ⟨⟨xk,xl,xh⟩,⟨xn,xa,xt,xu,xv⟩,xr⟩ Su xz Sw Sz) gb rfl H8.out.2.2.1 (by have:=HO.out.2.2.2.2.2;have:=HX.out.2.2;simp;omega) H8.out.2.1.size ?_
     intro v' w9 g1 g2 g3;have H9:Hid (KL w1 X l v' (.bool true) (.int .i64 ((i:Int)+1)) w9):=by
      refine Lh ⟨i+1,L++[bn.mk ⟨⟨pk,pl,ph⟩,⟨pn,pa,pt,pu,pv⟩,pr⟩ Xd pz Xa Xb]++[bn.mk ⟨⟨xk,xl,xh⟩,⟨xn,xa,xt,xu,xv⟩,xr⟩ Su xz Sw Sz],by have:=HX.out.2.2;have:=HN.out;omega,by go_num,?_,g1,?_,λy hy=>?_,H8.out.2.1.trans (bY.below H8.out.1 g2 H8.out.2.1.size)⟩
      ·rw[HX.out.1,sQ,bfr oJ.out,Bool.or_true]
      ·rw[HX.out.1,xR,<-HO.out.2.2.2.2.1,if_pos ⟨rfl,oJ.out⟩,bgl,bgl,HO.out.2.2.1,Va.out,SY.out];rfl
      rcases List.mem_append.1 hy with hy | hy
      ·rcases List.mem_append.1 hy with hy | hy
       ·exact HO.out.2.2.2.1 y hy
       rw[List.mem_singleton.1 hy,<-SY.out];exact .inl rfl
      rw[List.mem_singleton.1 hy,<-Va.out];exact .inr HX.out.2.1
     clear g1 g2 g3;go_wp2_with(fail);go_roundw
     case rel=>exact H9.out
     case measure=>have:=SX.out;simp[intOf];omega
    have hzl:¬z<0:=by rw[Tw.out];exact λh=>ha ((gI _ _).1 h)
    have hzd:decide (z<0)=false:=bfq hzl;have oJ:=Lh ha;clear ha;go_wp2_with(fail);refine(VI.out wx).mono ?_;rintro e w3 ⟨rfl,hB⟩;have H3:Hid (bY w3 w1.heap.size vb L/\Bw w1 w3/\cz w3 xb (bn.mk ⟨⟨xk,xl,xh⟩,⟨xn,xa,xt,xu,xv⟩,xr⟩ Su xz Sw Sz)):=Lh ⟨Te.out.1.far hB,Te.out.2.trans (hB.mono Te.out.2.size),Sn.out.1.below hB⟩;clear hB e0 e1 e2 d0 d1 d2;dsimp only;obtain⟨e0,e1,e2,e3,e4,e5,e6,e7⟩:=H3.out.2.2.d8;simp only at e0 e1 e2 e3 e4 e5 e6 e7;go_upto_region 9 with(fail);refine bg4 ?_
    iterate 6 go_step
    refine fD rfl (.tmp 30) rfl (bn.mk ⟨⟨xk,xl,xh⟩,⟨xn,xa,xt,xu,xv⟩,xr⟩ Su xz Sw Sz) rfl ?_;obtain⟨w8,hw8⟩:=Nm (w3.alloc (.cells (bn.mk ⟨⟨xk,xl,xh⟩,⟨xn,xa,xt,xu,xv⟩,xr⟩ Su xz Sw Sz).cells 55));obtain⟨gb,hgb⟩:=Nm (w3.heap.size);have H8:Hid (bY w8 w1.heap.size vb (L)/\Bw w1 w8/\(∀j z,(bn.mk ⟨⟨xk,xl,xh⟩,⟨xn,xa,xt,xu,xv⟩,xr⟩ Su xz Sw Sz).cells[j]? =some z->w8.cell? ⟨gb,j,none⟩=some z)/\Bw w3 w8):=by
     have hB:Bw w3 w8:=by rw[hw8];exact(Below.refl _ w3).alloc (bfx _) _
     refine Lh ⟨H3.out.1.far hB,H3.out.2.1.trans (hB.mono H3.out.2.1.size),λj z hz=>?_,hB⟩;rw[hw8,hgb,cell_of_row _ _ _ _ _ _ (bg5 w3 _)];exact hz
    rw[<-hw8,<-hgb];clear hw8 hgb e0 e1 e2 e3 e4 e5 e6 e7;refine gJ rfl (.tmp 29) (.tmp 31) rfl w1.heap.size vb (L) rfl H8.out.1 (bn.mk ⟨⟨xk,xl,xh⟩,⟨xn,xa,xt,xu,xv⟩,xr⟩ Su xz Sw Sz) gb rfl H8.out.2.2.1 (by have:=HO.out.2.2.2.2.2;have:=HX.out.2.2;omega) H8.out.2.1.size ?_
    intro v' w9 g1 g2 g3;have H9:Hid (KL w1 X l v' (.bool false) (.int .i64 ((i:Int)+1)) w9):=by
     refine Lh ⟨i+1,L++[bn.mk ⟨⟨xk,xl,xh⟩,⟨xn,xa,xt,xu,xv⟩,xr⟩ Su xz Sw Sz],by have:=HX.out.2.2;have:=HN.out;omega,by go_num,?_,g1,?_,λy hy=>?_,H8.out.2.1.trans (bY.below H8.out.1 g2 H8.out.2.1.size)⟩
     ·rw[HX.out.1,sQ,<-HO.out.2.2.2.2.1,bfq oJ.out];rfl
     ·rw[HX.out.1,xR,if_neg (λh=>oJ.out h.2),bgl,HO.out.2.2.1,Va.out];rfl
     rcases List.mem_append.1 hy with hy | hy
     ·exact HO.out.2.2.2.1 y hy
     rw[List.mem_singleton.1 hy,<-Va.out];exact .inr HX.out.2.1
    clear g1 g2 g3;go_wp2_with(fail);go_roundw
    case rel=>exact H9.out
    case measure=>have:=SX.out;simp[intOf];omega
  obtain rfl:i=n:=by omega
  have HE:=N8 X.p ((l.take i).map bn.p);rw[<-HO.out.2.2.2.2.1,<-HO.out.2.2.1,HN.out,bgs]at HE;have UN:=Lh HE;clear HE hlt hi
  cases d with
  | true=>
   have HZ:Hid (P (.returned vb) wr):=Lh (Sl.out _ _ L HO.out.1 (by have h:=UN.out;rw[if_pos rfl]at h;exact h) HO.out.2.2.2.1 HO.out.2.1)
   clear HO;go_wp2_with(fail);exact HZ.out
  | false=>
   have H3:Hid (bY wr w1.heap.size vb L/\Bw w1 wr/\cz wr pb (bn.mk ⟨⟨pk,pl,ph⟩,⟨pn,pa,pt,pu,pv⟩,pr⟩ Xd pz Xa Xb)):=by
    have h:=H1.out.1.below HO.out.2.1;rw[SY.out]at h;exact Lh ⟨HO.out.1,HO.out.2.1,h⟩
   obtain⟨e0,e1,e2,e3,e4,e5,e6,e7⟩:=H3.out.2.2.d8;simp only at e0 e1 e2 e3 e4 e5 e6 e7;go_upto_region 12 with(fail);refine bg4 ?_
   iterate 6 go_step
   refine fD rfl (.tmp 37) rfl (bn.mk ⟨⟨pk,pl,ph⟩,⟨pn,pa,pt,pu,pv⟩,pr⟩ Xd pz Xa Xb) rfl ?_;obtain⟨w8,hw8⟩:=Nm (wr.alloc (.cells (bn.mk ⟨⟨pk,pl,ph⟩,⟨pn,pa,pt,pu,pv⟩,pr⟩ Xd pz Xa Xb).cells 55));obtain⟨gb,hgb⟩:=Nm (wr.heap.size);have H8:Hid (bY w8 w1.heap.size vb (L)/\Bw w1 w8/\(∀j z,(bn.mk ⟨⟨pk,pl,ph⟩,⟨pn,pa,pt,pu,pv⟩,pr⟩ Xd pz Xa Xb).cells[j]? =some z->w8.cell? ⟨gb,j,none⟩=some z)/\Bw wr w8):=by
    have hB:Bw wr w8:=by rw[hw8];exact(Below.refl _ wr).alloc (bfx _) _
    refine Lh ⟨H3.out.1.far hB,H3.out.2.1.trans (hB.mono H3.out.2.1.size),λj z hz=>?_,hB⟩;rw[hw8,hgb,cell_of_row _ _ _ _ _ _ (bg5 wr _)];exact hz
   rw[<-hw8,<-hgb];clear hw8 hgb e0 e1 e2 e3 e4 e5 e6 e7;refine gJ rfl (.tmp 36) (.tmp 38) rfl w1.heap.size vb (L) rfl H8.out.1 (bn.mk ⟨⟨pk,pl,ph⟩,⟨pn,pa,pt,pu,pv⟩,pr⟩ Xd pz Xa Xb) gb rfl H8.out.2.2.1 (by have:=HO.out.2.2.2.2.2;omega) H8.out.2.1.size ?_
   intro v' w9 g1 g2 g3;have HZ:Hid (P (.returned v') w9):=by
    refine Lh (Sl.out _ _ (L++[bn.mk ⟨⟨pk,pl,ph⟩,⟨pn,pa,pt,pu,pv⟩,pr⟩ Xd pz Xa Xb]) g1 ?_ (λy hy=>?_) (H8.out.2.1.trans (bY.below H8.out.1 g2 H8.out.2.1.size)))
    ·have h:=UN.out;rw[if_neg (by decide)]at h
     rw[<-h,bgl,SY.out];rfl
    rcases List.mem_append.1 hy with hy | hy
    ·exact HO.out.2.2.2.1 y hy
    rw[List.mem_singleton.1 hy,<-SY.out];exact .inl rfl
   clear g1 g2 g3;go_wp2_with(fail);exact HZ.out
end Go.Proofs.YtjeeghafachebaaGreat
