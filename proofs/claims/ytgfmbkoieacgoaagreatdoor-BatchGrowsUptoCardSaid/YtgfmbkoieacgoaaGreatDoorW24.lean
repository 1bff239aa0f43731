/- 24. -/
import Derived.Test.YtgfmbkoieacgoaaGreatDoorW14
import Derived.Test.YtgfmbkoieacgoaaGreatDoorW19
import Derived.Test.YtgfmbkoieacgoaaGreatDoorW21
import Derived.Test.YtgfmbkoieacgoaaGreatDoorW22
import Derived.Test.YtgfmbkoieacgoaaGreatDoorW23
set_option maxRecDepth 100000
set_option maxHeartbeats 16000000
namespace Go.Proofs.YtgfmbkoieacgoaaGreatDoor
open Go Go.RowKit Go.Proofs.Tryz
def lq(w:World)(b:Nat)(x:ItemL):Prop:=w.heap[b]? =some (.cells x.cells 32 (0,0))
theorem lq.lt {w:World} {b:Nat} {x:ItemL}(h:lq w b x):b<w.heap.size:=(Array.getElem?_eq_some_iff.1 h).1
theorem lq.below {w w':World} {b:Nat} {x:ItemL}(h:lq w b x)(a:Bw w w'):lq w' b x:=(a.block b h.lt).trans h
def DX(w:World)(b:Nat)(k:Int)(key:List (BitVec 8))(t v:Int):Prop:=w.cell? ⟨b,0,none⟩=some (.int .i64 k)/\w.cell? ⟨b,1,none⟩=some (Sv key)/\w.cell? ⟨b,2,none⟩=some (.int .i64 t)/\w.cell? ⟨b,3,none⟩=some (.int .i64 v)
theorem lq.dx {w:World} {b:Nat} {x:ItemL}(h:lq w b x):DX w b x.kind x.key x.time x.value:=by
 refine⟨?_,?_,?_,?_⟩ <;> (rw[cell_of_row _ _ _ _ _ _ h];rfl)
theorem grown_row {w w':World} {row:Option Nat}(c:w.grownBy w' row) {b:Nat} {o:Obj}(h:w.heap[b]? =some o)(a:some b≠row):w'.heap[b]? =some o:=(c.block b (Array.getElem?_eq_some_iff.1 h).1 a).trans h
theorem bC.apart {w:World} {m:Value} {l:List Int} {a:Addr} {n c b:Nat} {p:Array Value} {T:TypeId} {q:Nat × Nat}(h:bC w m l)(e:m=.slice (some a) n c)(j:l≠[])(r:w.heap[b]? =some (.cells p T q))(s:T≠3):a.block≠b:=by
 obtain⟨F,I,u,_,k⟩:=h;rcases k with⟨_,k⟩ | ⟨x,o,y,d,_⟩
 ·exact absurd k j
 rw[u]at e;cases e
 cases y
 rcases d with d | ⟨z,d⟩
 ·exact absurd d j
 intro D;have E:x=b:=D;rw[E,r]at d;simp only[bf5,Obj.cells.injEq]at d;exact s d.2.1
theorem di.store {w w':World} {x y:bn} {b:Nat}(h:di w x)(c:dw w b y)(d:w.grownBy w' (some b)):di w' x:=
 ⟨h.1.grown d (λ_ _ _ e a=>h.1.apart e a c (by decide)),h.2⟩
theorem Gt {w:World} {B n:Nat} {v u:Value} {l:List bf} {m:List bn}(h:dQ w B v l)(o:dm w n u m):v.ownBlock=none∨v.ownBlock≠u.ownBlock:=by
 rcases h.2 with⟨b,_⟩ | ⟨a,c,p,b,_,d,_⟩
 ·exact .inl (by rw[b];rfl)
 right
 rcases o.2 with⟨j,_⟩ | ⟨r,s,k,j,_,q,_⟩
 ·rw[b,j];simp[Value.ownBlock]
 rw[b,j];intro e;simp only[Value.ownBlock,bf5]at e;rw[e,q]at d;simp only[bf5,Obj.cells.injEq]at d;exact absurd d.2.1 (by decide)
theorem Gs {w:World} {B n:Nat} {v u:Value} {l:List bf} {m:List bH}(h:dQ w B v l)(o:fU w n u m):v.ownBlock=none∨v.ownBlock≠u.ownBlock:=by
 rcases h.2 with⟨b,_⟩ | ⟨a,c,p,b,_,d,_⟩
 ·exact .inl (by rw[b];rfl)
 right
 rcases o.2 with⟨j,_⟩ | ⟨r,s,k,j,_,q,_⟩
 ·rw[b,j];simp[Value.ownBlock]
 rw[b,j];intro e;simp only[Value.ownBlock,bf5]at e;rw[e,q]at d;simp only[bf5,Obj.cells.injEq]at d;exact absurd d.2.1 (by decide)
def wM(w:World)(qb sb xb rb B:Nat)(q:bu)(m:Int)(pv:Value)(x:ItemL)(wv:Value)(ws:List bf)(nv:Value)(nl:List bn)(ov:Value)(ol:List bH)(wr:World):Prop:=
 (dB wr qb q/\bZ wr sb m pv/\lq wr xb x/\bZ wr rb 0 bM)/\dQ wr B wv ws/\gY wr B nv nl/\jD wr B ov ol/\Bw w wr/\
  (∀z∈ol,∀a n c,z.tv=.slice (some a) n c->z.o.v≠[]->nv.ownBlock≠some a.block)/\∀z∈nl,∀a n c,z.tv=.slice (some a) n c->z.p.a.top≠[]->ov.ownBlock≠some a.block
theorem wM.below {w:World} {b c d e B:Nat} {q:bu} {m:Int} {j:Value} {x:ItemL} {k:Value} {l:List bf} {n:Value} {o:List bn} {p:Value} {r:List bH} {wr s:World}
  (h:wM w b c d e B q m j x k l n o p r wr) (a:Bw wr s):wM w b c d e B q m j x k l n o p r s:=by
 obtain⟨⟨u,y,z,D⟩,E,F,I,J,K⟩:=h;exact⟨⟨u.below a,y.below a,z.below a,D.below a⟩,E.far a,F.far a,I.far a,Tb J a,K⟩
theorem wM.off {w:World} {d j l n B:Nat} {q:bu} {m:Int} {o:Value} {x:ItemL} {a:Value} {p:List bf} {b:Value} {r:List bn} {c:Value} {s:List bH} {wr:World}
  (h:wM w d j l n B q m o x a p b r c s wr) {k:Nat} (u:wr.heap.size<=k):a.ownBlock≠some k/\b.ownBlock≠some k/\c.ownBlock≠some k:=
 ⟨λe=>by have:=(dQ.lt h.2.1 e).2;omega,λe=>by have:=(h.2.2.1.1.lt e).2;omega,λe=>by have:=(h.2.2.2.1.1.lt e).2;omega⟩
theorem wM.Xo {w:World} {J K L M B:Nat} {q:bu} {m:Int} {U:Value} {x:ItemL} {Y:Value} {Z:List bf} {E:Value} {nl:List bn} {N:Value} {ol:List bH} {wr w':World}
  (h:wM w J K L M B q m U x Y Z E nl N ol wr) (hb:w.heap.size<=B/\J<B/\K<B/\L<B/\M<B) {y:bn} {O:Value} {u:List bn} (F:∀z∈u,z∈nl∨z=y) (hy:di wr y)
  (Q:∀a n c,y.tv=.slice (some a) n c->y.p.a.top≠[]->E.ownBlock≠some a.block/\N.ownBlock≠some a.block) (ho:dm w' B O u) (o:wr.grownBy w' E.ownBlock) (s:O.ownBlock=E.ownBlock∨O.ownBlock=some wr.heap.size):
  wM w J K L M B q m U x Y Z O u N ol w':=by
 obtain⟨⟨j1,j2,j3,j4⟩,jw,I,R,j7,j8,j9⟩:=h;obtain⟨b0,b1,b2,b3,b4⟩:=hb;have r:∀b,b<B->some b≠E.ownBlock:=λb hb e=>by have:=I.1.lt e.symm;omega
 have d:∀z∈u,di wr z/\∀a n c,z.tv=.slice (some a) n c->z.p.a.top≠[]->E.ownBlock≠some a.block/\N.ownBlock≠some a.block:=λz j=>by
  rcases F z j with j | rfl
  ·exact⟨(I.2 z j).1,λa n c e l=>⟨(I.2 z j).2 a n c e l,j9 z j a n c e l⟩⟩
  exact⟨hy,Q⟩
 refine⟨⟨grown_row o j1 (r J b1),grown_row o j2 (r K b2),grown_row o j3 (r L b3),grown_row o j4 (r M b4)⟩,jw.kept o (Gt jw I.1),⟨ho,λz j=>⟨⟨bC.qC (d z j).1.1 o (λa n c e l=>((d z j).2 a n c e l).1),(d z j).1.2⟩,λa n c e l D=>?_⟩⟩,
  R.keep o (mJ I.1 R.1) (λz j a n c e l=>j8 z j a n c e l),j7.trans ⟨o.os,o.tape,o.output,o.size,λk hk=>o.block k (by have:=j7.size;omega) (r k (by omega))⟩,λz j a n c e l D=>?_,λz j a n c e l=>((d z j).2 a n c e l).2⟩
 ·rcases s with s | s
  ·rw[s]at D;exact((d z j).2 a n c e l).1 D
  rw[s]at D;have:=bC.lt (d z j).1.1 e l;have S:=Option.some.inj D;omega
 rcases s with s | s
 ·rw[s]at D;exact j8 z j a n c e l D
 rw[s]at D;have:=bC.lt (R.2 z j).1 e l;have S:=Option.some.inj D;omega
theorem wM.out {w:World} {D E F I B:Nat} {q:bu} {m:Int} {Q:Value} {x:ItemL} {R:Value} {S:List bf} {M:Value} {U:List bn} {s:Value} {N:List bH} {wr w':World}
  (h:wM w D E F I B q m Q x R S M U s N wr) (Y:w.heap.size<=B/\D<B/\E<B/\F<B/\I<B) {y:bH} {J:Value} (hy:dL wr y)
  (u:∀a n c,y.tv=.slice (some a) n c->y.o.v≠[]->M.ownBlock≠some a.block/\s.ownBlock≠some a.block) (ho:fU w' B J (N++[y])) (d:wr.grownBy w' s.ownBlock) (r:J.ownBlock=s.ownBlock∨J.ownBlock=some wr.heap.size):
  wM w D E F I B q m Q x R S M U J (N++[y]) w':=by
 obtain⟨⟨j1,j2,j3,j4⟩,Z,O,K,j7,j8,j9⟩:=h;obtain⟨b0,b1,b2,b3,b4⟩:=Y;have j:∀b,b<B->some b≠s.ownBlock:=λb Y e=>by have:=K.1.lt e.symm;omega
 refine⟨⟨grown_row d j1 (j D b1),grown_row d j2 (j E b2),grown_row d j3 (j F b3),grown_row d j4 (j I b4)⟩,Z.kept d (Gs Z K.1),O.keep d (qL O.1 K.1) (λz l a n c e p=>j9 z l a n c e p),
  K.push hy (λa n c e p=>(u a n c e p).2) ho d r,j7.trans ⟨d.os,d.tape,d.output,d.size,λk hk=>d.block k (by have:=j7.size;omega) (j k (by omega))⟩,λz l a n c e p=>?_,λz l a n c e p L=>?_⟩
 ·rcases List.mem_append.1 l with l | l
  ·exact j8 z l a n c e p
  rw[List.mem_singleton.1 l]at e p;exact(u a n c e p).1
 rcases r with r | r
 ·rw[r]at L;exact j9 z l a n c e p L
 rw[r]at L;have:=bC.lt (O.2 z l).1.1 e p;have aa:=Option.some.inj L;omega
theorem wM.set {w:World} {l o p r B:Nat} {q:bu} {m:Int} {J:Value} {x:ItemL} {s:Value} {K:List bf} {u:Value} {L:List bn} {D:Value} {M:List bH} {wr w':World}
  (h:wM w l o p r B q m J x s K u L D M wr) (R:w.heap.size<=B/\l<B/\o<B/\p<B/\r<B) {k:Nat} {y:bn} (hk:B<=k) (d:dw wr k y) (b:s.ownBlock≠some k/\u.ownBlock≠some k/\D.ownBlock≠some k) (j:wr.grownBy w' (some k)):
  wM w l o p r B q m J x s K u L D M w':=by
 obtain⟨⟨S,U,Y,Z⟩,jw,N,O,Q,j8,j9⟩:=h;obtain⟨b0,b1,b2,b3,b4⟩:=R;refine⟨⟨grown_row j S (by simp;omega),grown_row j U (by simp;omega),grown_row j Y (by simp;omega),grown_row j Z (by simp;omega)⟩,jw.kept j (.inr b.1),N.keep j (.inr b.2.1) (λz E a n c e F I=>?_),O.keep j (.inr b.2.2) (λz E a n c e F I=>?_),Q.trans (bQ j (by omega) Q.size),j8,j9⟩
 ·exact bC.apart (N.2 z E).1.1 e F d (by decide) (Option.some.inj I).symm
 exact bC.apart (O.2 z E).1 e F d (by decide) (Option.some.inj I).symm
def Xx(B:Nat)(tv:Value):Prop:=∀a n c,tv=.slice (some a) n c->B<=a.block
def Fj(B:Nat)(gp:bY)(w:World)(Y:bn):Prop:=Y.p=gp/\di w Y/\Xx B Y.tv
theorem Fj.below {B:Nat} {a:bY} {w w':World} {Y:bn}(h:Fj B a w Y)(b:Bw w w'):Fj B a w' Y:=⟨h.1,h.2.1.below b,h.2.2⟩
theorem Fj.store {B:Nat} {a:bY} {w w':World} {Y X:bn} {b:Nat}(h:Fj B a w Y)(c:dw w b X)(d:w.grownBy w' (some b)):Fj B a w' Y:=⟨h.1,h.2.1.store c d,h.2.2⟩
def V6(B:Nat)(gp:bY)(er:Int):List (Nat × (Nat->World->Value->Prop)):=
 [(8,λ_ w v=>∃Y:bn,v=.tuple #[.agg Y.cells,.int .i64 er]/\Fj B gp w Y),(9,λ_ w v=>∃Y:bn,v=.tuple #[.agg Y.cells,.int .i64 er]/\Fj B gp w Y),(10,λ_ w v=>∃Y:bn,v=.agg Y.cells/\Fj B gp w Y),
  (12,λk w v=>∃b,v=.pointer (some ⟨b,0,none⟩)/\B<=b/\if k<=1 then dw w b dh else ∃Y:bn,dw w b Y/\Fj B gp w Y)]
theorem V7 {B:Nat} {m:bY} {n:Int}:∀p∈V6 B m n,∀k w w' v,Bw w w'->p.2 k w v->p.2 k w' v:=by
 intro p l k w w' v d h;simp only[V6,bf2,bf9,or_false]at l;rcases l with rfl | rfl | rfl | rfl
 ·obtain⟨Y,a,c⟩:=h;exact⟨Y,a,c.below d⟩
 ·obtain⟨Y,a,c⟩:=h;exact⟨Y,a,c.below d⟩
 ·obtain⟨Y,a,c⟩:=h;exact⟨Y,a,c.below d⟩
 obtain⟨b,a,c,e⟩:=h;refine⟨b,a,c,?_⟩
 split at e
 ·rename_i j;rw[if_pos j];exact e.below d
 rename_i j;rw[if_neg j];obtain⟨Y,o,q⟩:=e;exact⟨Y,o.below d,q.below d⟩
theorem PH {B:Nat} {j:bY} {k:Int} {w w':World} {l:List Oper} {a:Act}(e:Bw w w'):∀p∈V6 B j k,12=p.1∨∀d,dstAt l p.1=some d->p.2 0 w (a.eval (.tmp d))->p.2 1 w' (a.eval (.tmp d)):=by
 intro p h;simp only[V6,bf2,bf9,or_false]at h;rcases h with rfl | rfl | rfl | rfl
 ·exact .inr λd _ ⟨Y,b,c⟩=>⟨Y,b,c.below e⟩
 ·exact .inr λd _ ⟨Y,b,c⟩=>⟨Y,b,c.below e⟩
 ·exact .inr λd _ ⟨Y,b,c⟩=>⟨Y,b,c.below e⟩
 exact .inl rfl
theorem RU {B:Nat} {m:bY} {q:Int} {w w':World} {b:Nat} {Y:bn} {l:List Oper} {a:Act}(r:dstAt l 12=some 17)(s:a.eval (.tmp 17)=.pointer (some ⟨b,0,none⟩))(h:dw w b dh)(j:B<=b)(k:w.grownBy w' (some b))(u:dw w' b Y)(x:Fj B m w' Y):
  ∀p∈V6 B m q,13=p.1∨∀d,dstAt l p.1=some d->p.2 1 w (a.eval (.tmp d))->p.2 2 w' (a.eval (.tmp d)):=by
 intro p n;simp only[V6,bf2,bf9,or_false]at n;rcases n with rfl | rfl | rfl | rfl
 ·exact .inr λd _ ⟨Y,c,e⟩=>⟨Y,c,e.store h k⟩
 ·exact .inr λd _ ⟨Y,c,e⟩=>⟨Y,c,e.store h k⟩
 ·exact .inr λd _ ⟨Y,c,e⟩=>⟨Y,c,e.store h k⟩
 refine .inr λd o _=>?_;rw[r]at o;cases o
 exact⟨b,s,j,Y,u,x⟩
theorem Hf(w:World)(q:bu)(m:Int)(d:Value)(x:ItemL):
  let W:=(((w.alloc (.cells q.cells 23)).alloc (.cells #[.int .i64 m,d] 72)).alloc (.cells x.cells 32)).alloc (.cells #[.int .i64 0,bM] 72)
  dB W w.heap.size q/\bZ W (w.heap.size+1) m d/\lq W (w.heap.size+2) x/\bZ W (w.heap.size+3) 0 bM/\Bw w W/\W.heap.size=w.heap.size+4:=by
 intro W;obtain⟨h,j,k⟩:=KU w q m d;obtain⟨b,a⟩:=Nm ((w.alloc (.cells q.cells 23)).alloc (.cells #[.int .i64 m,d] 72));have l:b.heap.size=w.heap.size+2:=by rw[a,bg,bg]
 have o:W=(b.alloc (.cells x.cells 32)).alloc (.cells #[.int .i64 0,bM] 72):=by rw[a]
 rw[<-a]at h j k;have p:=(Below.refl _ b).alloc (bfx _) (.cells x.cells 32);have n:=(Below.refl _ (b.alloc (.cells x.cells 32))).alloc (bfx _) (.cells #[.int .i64 0,bM] 72);have c:(b.alloc (.cells x.cells 32)).heap.size=w.heap.size+3:=by rw[bg,l]
 have e:=Tb p n;rw[o];refine⟨h.below e,j.below e,?_,?_,Tb k e,by rw[bg,c]⟩
 ·refine lq.below ?_ n;rw[<-l];exact bg5 _ _
 rw[<-c];exact bg5 _ _
def nR(w:World)(s:df)(o:List dE)(er:Int)(e:Ending)(w':World):Prop:=∃sv ov,e=.returned (.tuple #[sv,ov,.int .i64 er])/\gG w' sv s/\fM w' ov o/\Bw w w'
def WV(w:World)(qb sb xb rb B:Nat)(q:bu)(m:Int)(pv:Value)(x:ItemL)(wv:Value)(ws:List bf)(c0:lh)(n0:Nat)(s9 s10 s11 Iq:Value)(wr:World):Prop:=
 ∃i:Nat,i<=ws.length/\Iq=.int .i64 (i:Int)/\∃nl ol,∃lt:Bool,s10=.bool lt/\ol.length<=i/\dW q m x.value ws c0=dW q m x.value (ws.drop i) ⟨nl.map bn.p,ol.map bH.o,lt,0⟩/\dJ q (nl.map bn.p) (n0+i)/\wM w qb sb xb rb B q m pv x wv ws s9 nl s11 ol wr
theorem yN(w:World):gG w (.agg #[.int .i64 0,.slice none 0 0]) zeroS:=⟨bM,[],rfl,cZ.nil _,by simp,rfl⟩
theorem dQ.at {w:World} {B n c:Nat} {a:Option Addr} {l:List bf}(h:dQ w B (.slice a n c) l):fZ w a l:=by
 obtain⟨b,d,e,_,h⟩:=h.form;injection e with e1
 rw[e1];exact h
theorem dm.at {w:World} {B n c:Nat} {a:Option Addr} {l:List bn}(h:dm w B (.slice a n c) l):dS w a l:=by
 obtain⟨b,d,e,_,h⟩:=h.form;injection e with e1
 rw[e1];exact h
theorem nH(w:World)(r:Option Nat):w.grownBy w r:=⟨rfl,rfl,rfl,bfx _,λ_ _ _=>rfl⟩
theorem grown_below {w w':World}(r:Nat)(a:Bw w w'):w.grownBy w' (some r):=⟨a.os,a.tape,a.output,a.size,λk b _=>a.block k b⟩
theorem Np {w:World} {B n c:Nat} {a:Option Addr} {l:List bn} {i j:Nat}(h:dm w B (.slice a n c) l)(b:i<=j)(m:j<=l.length):
  ∃o q,(∀w',(Instr.slice 70 (.slice a n c) (some (.int .i64 (i:Int))) (some (.int .i64 (j:Int))) none).run prog w'=.ok (.slice o (j-i) q) w')/\dS w o ((l.take j).drop i):=by
 have d:=h.at;rcases h.shape with⟨e,rfl⟩ | ⟨g,s,e,r⟩
 ·unfold bM at e;injection e with e1 e2 e3
  subst e1 e2 e3;obtain rfl:j=0:=by simpa using m
  obtain rfl:i=0:=by omega
  refine⟨none,0,λw'=>?_,.inl rfl⟩;simp[Instr.slice,run_underlying underlying70,Instr.sliceBounds,run_sliceBound,show ∀w,(sizeOf 131).run prog w=.ok 8 w from sizeOf131]
 injection e with e1 e2 e3
 subst e1 e2 e3;refine⟨_,_,λw'=>qN w' g l.length c i j b m r,?_⟩;by_cases k:c=i
 ·refine .inl ?_;rw[List.drop_eq_nil_of_le];rw[bga];omega
 rw[if_neg k];have p:=(d.take j).cut i;rw[bgu]at p;exact p
theorem Qc {q:bu} {mark v:Int} {e:List bf} {c0:lh} {i n:Nat} {W:bf} {b A B:List bY} {j:List dE} {lt:Bool}(p:dW q mark v e c0=dW q mark v (e.drop i) ⟨b,j,lt,0⟩)(s:e[i]? =some W)(m:dJ q b n)
  (E:W.rightB=true/\W.key.length<=1000000) (F:pg q b W=A++B) (I:∀a∈A,bK a.w (dV q b W)) (J:∀x∈B,bK (dV q b W) x.w) (u:kD q (dV q b W) mark=false)
  {c:bY} {k:Int} (K:c=(dK q (dV q b W) (fO q b W) v).1) (y:k=(dK q (dV q b W) (fO q b W) v).2):
  (k≠0->dW q mark v e c0=⟨[],[],false,k⟩)/\(k=0->1073741824<(gy c mark).r->dW q mark v e c0=⟨[],[],false,20⟩)/\
   (k=0->¬1073741824<(gy c mark).r->dJ q (A++gy c mark::B) (n+1)/\dW q mark v e c0=dW q mark v (e.drop (i+1)) ⟨A++gy c mark::B,j++(if kG (dV q b W) mark=true then [lK q (gy c mark)]else []),false,0⟩)/\
   (k=0->(0<=c.r/\c.r<=1073741824)/\c.a.top.length<=1000000/\c.w=dV q b W):=by
 subst K y;refine⟨λd=>?_,λd l=>?_,λd l=>?_,λd=>?_⟩
 ·have h:mO q mark v ⟨b,j,lt,0⟩ W=⟨[],[],false,(dK q (dV q b W) (fO q b W) v).2⟩:=by
   unfold mO;rw[if_neg (by show ¬kD q (dV q b W) mark=true;rw[u];decide),if_pos d]
  rw[qQ p s,h,if_neg d]
 ·have h:mO q mark v ⟨b,j,lt,0⟩ W=⟨[],[],false,20⟩:=by
   unfold mO;rw[if_neg (by show ¬kD q (dV q b W) mark=true;rw[u];decide),if_neg (λh=>h d),if_pos l]
  rw[qQ p s,h,if_neg (by decide)]
 ·obtain⟨z,D⟩:=m.ins E.1 E.2 F I J d l;refine⟨z,?_⟩;have h:mO q mark v ⟨b,j,lt,0⟩ W=⟨A++gy (dK q (dV q b W) (fO q b W) v).1 mark::B,j++(if kG (dV q b W) mark=true then [lK q (gy (dK q (dV q b W) (fO q b W) v).1 mark)]else []),false,0⟩:=by
   unfold mO;rw[if_neg (by show ¬kD q (dV q b W) mark=true;rw[u];decide),if_neg (λh=>h d),if_neg l]
   show lh.mk (CW (pg q b W) _) _ _ _=_;rw[D]
  rw[qQ p s,h,if_pos rfl]
 obtain⟨z,D,L⟩:=sU d (λo l=>((m.2.1 o (List.mem_filter.1 l).1).1));have:=gq L;exact⟨D,by omega,z⟩
theorem Lc(a b c:Int)(k:List (BitVec 8)):prog.built 37 [(0,.bool true),(1,.agg #[.int .i64 a,Sv k,.int .i64 b,.int .i64 c])]=some #[.bool true,.int .i64 a,Sv k,.int .i64 b,.int .i64 c,.string ⟨#[]⟩,.int .i64 0,.int .i64 0,.int .i64 0,.slice none 0 0]:=by kernel_rfl
theorem FT(m:Int)(a:Option Addr)(n c:Nat):prog.built 72 [(0,.int .i64 m),(1,.slice a n c)]=some #[.int .i64 m,.slice a n c]:=by kernel_rfl
def WZ(B0:Nat)(O:bH):List (Nat × (Nat->World->Value->Prop)):=
 [(3,λ_ w v=>∃b,v=.slice (some ⟨b,0,none⟩) 1 1/\B0<=b/\fH w b O),(5,λ_ w v=>∃b,v=.slice (some ⟨b,0,none⟩) 1 1/\B0<=b/\fH w b O)]
theorem sK {a c b:Nat} {O:bH} {w w':World} {v:Value}(e:c<a)(d:w.grownBy w' (some c))(h:v=.slice (some ⟨b,0,none⟩) 1 1/\a<=b/\fH w b O):∃b,v=.slice (some ⟨b,0,none⟩) 1 1/\a<=b/\fH w' b O:=
 ⟨b,h.1,h.2.1,grown_row d h.2.2 (by have:=h.2.1;simp;omega)⟩
theorem We {a c:Nat} {O:bH}(d:c<a):∀p∈WZ a O,∀k w w' v,w.grownBy w' (some c)->p.2 k w v->p.2 k w' v:=by
 intro p e k w w' v j h;simp only[WZ,bf2,bf9,or_false]at e;rcases e with rfl | rfl
 ·obtain⟨b,h⟩:=h;exact sK d j h
 obtain⟨b,h⟩:=h;exact sK d j h
theorem RY {c e:Nat} {O:bH} {w w':World} {l:List Oper} {a:Act}(j:e<c)(k:w.grownBy w' (some e)):∀p∈WZ c O,4=p.1∨∀d,dstAt l p.1=some d->p.2 0 w (a.eval (.tmp d))->p.2 1 w' (a.eval (.tmp d)):=by
 intro p m;simp only[WZ,bf2,bf9,or_false]at m;rcases m with rfl | rfl
 ·exact .inr λd _ ⟨b,h⟩=>sK j k h
 exact .inr λd _ ⟨b,h⟩=>sK j k h
theorem ja:prog.built 72 []=some #[.int .i64 0,.slice none 0 0]:=by kernel_rfl
theorem QJ(w:World)(q:bu)(m:Int)(pv:Value)(x:ItemL)(l:List bn)(hA:cZ w pv l)(M:∀y∈l,di w y)(ak:dJ q (l.map bn.p) 256)(hk:x.key.length<=1000000):
  Calls prog 135 #[.agg q.cells,.agg #[.int .i64 m,pv],.agg x.cells] w (nR w (jA q ⟨m,l.map bn.p⟩ x).1 (jA q ⟨m,l.map bn.p⟩ x).2.1 (jA q ⟨m,l.map bn.p⟩ x).2.2):=by
 have mixed:prog.follows .mixedOrders=true:=by kernel_rfl
 obtain⟨ps,ar⟩:=Nm (l.map bn.p);rw[<-ar]at ak ⊢;obtain⟨Z,au⟩:=Nm (rX q x.key x.time);obtain⟨c0,aK⟩:=Nm (⟨ps,[],true,0⟩:lh);obtain⟨P,hP⟩:=Nm (nR w (jA q ⟨m,ps⟩ x).1 (jA q ⟨m,ps⟩ x).2.1 (jA q ⟨m,ps⟩ x).2.2);rw[<-hP];have ao:jA q ⟨m,ps⟩ x=if (dW q m x.value Z c0).e≠0 then (zeroS,[],(dW q m x.value Z c0).e)else if (dW q m x.value Z c0).late=true then (⟨m,ps⟩,[DF x],0)else if 256<(dW q m x.value Z c0).panes.length then (zeroS,[],30)else (⟨m,(dW q m x.value Z c0).panes⟩,(dW q m x.value Z c0).outs,0):=by rw[au,aK];rfl
 obtain⟨v_,aL⟩:=Nm (x.value);rw[<-aL]at ao;have YU:Hid (∀R c,dW q m v_ Z c0=c->c.e≠0->Bw w R->P (.returned (.tuple #[.agg #[.int .i64 0,.slice none 0 0],.slice none 0 0,.int .i64 c.e])) R):=Lh (λR c h he F=>by
  rw[hP,ao,h,if_pos he];exact⟨_,_,rfl,yN R,fM.nil _,F⟩)
 have Zw:Hid (∀R c ov,dW q m v_ Z c0=c->c.e=0->c.late=true->fM R ov [DF x]->cZ R pv l->(∀y∈l,di R y)->Bw w R->P (.returned (.tuple #[.agg #[.int .i64 m,pv],ov,.int .i64 0])) R):=Lh (λR c ov h he hl h1 h2 h3 F=>by
  rw[hP,ao,h,if_neg (by simp[he]),if_pos hl]
  exact⟨_,_,rfl,⟨pv,l,rfl,h2,h3,ar⟩,h1,F⟩)
 have Z4:Hid (∀R c,dW q m v_ Z c0=c->c.e=0->c.late=false->256<c.panes.length->Bw w R->P (.returned (.tuple #[.agg #[.int .i64 0,.slice none 0 0],.slice none 0 0,.int .i64 30])) R):=Lh (λR c h he hl hn F=>by
  rw[hP,ao,h,if_neg (by simp[he]),if_neg (by simp[hl]),if_pos hn]
  exact⟨_,_,rfl,yN R,fM.nil _,F⟩)
 have XY:Hid (∀R c nv E ov,dW q m v_ Z c0=c->c.e=0->c.late=false->¬256<c.panes.length->cZ R nv E->(∀y∈E,di R y)->c.panes=E.map bn.p->fM R ov c.outs->Bw w R->P (.returned (.tuple #[.agg #[.int .i64 m,nv],ov,.int .i64 0])) R):=Lh (λR c nv E ov h he hl hn h1 h2 h3 h4 F=>by
  rw[hP,ao,h,if_neg (by simp[he]),if_neg (by simp[hl]),if_neg hn]
  exact⟨_,_,rfl,⟨nv,E,rfl,h1,h2,h3⟩,h4,F⟩)
 obtain⟨sa,sc,a0,al,am⟩:=hA.form;clear al am;obtain⟨w1,av⟩:=Nm ((((w.alloc (.cells q.cells 23)).alloc (.cells #[.int .i64 m,pv] 72)).alloc (.cells x.cells 32)).alloc (.cells #[.int .i64 0,.slice none 0 0] 72));obtain⟨qb,XW⟩:=Nm (w.heap.size);obtain⟨sb,aM⟩:=Nm (w.heap.size+1);obtain⟨xb,aN⟩:=Nm (w.heap.size+2);obtain⟨I,aB⟩:=Nm (w.heap.size+3);have H1:Hid (dB w1 qb q/\bZ w1 sb m pv/\lq w1 xb x/\bZ w1 I 0 bM/\Bw w w1/\w1.heap.size=w.heap.size+4):=by rw[av,XW,aM,aN,aB];exact Lh (Hf w q m pv x)
 obtain⟨B,EL⟩:=Nm (w1.heap.size);have uF:Hid (sb≠I/\xb≠I):=Lh ⟨by omega,by omega⟩
 have ab:Hid ((w.heap.size<=B/\qb<B/\sb<B/\xb<B/\I<B)/\w.heap.size<=I/\w1.heap.size=B):=Lh ⟨by have:=H1.out.2.2.2.2.2;omega,by omega,EL.symm⟩
 have HA:Hid (cZ w pv l/\(∀y∈l,di w y)/\dJ q ps 256/\ps=l.map bn.p/\c0=⟨ps,[],true,0⟩):=Lh ⟨hA,M,ak,ar,aK⟩;have Yv:Hid (∀y∈l,∀a n c,y.tv=.slice (some a) n c->y.p.a.top≠[]->a.block<w.heap.size):=Lh (λy hy a n c e bi=>bC.lt (M y hy).1 e bi);have aS:l.length<=256:=by have:=ak.2.2;rw[ar,bfz]at this;exact this
 have aw:Hid (Z.length<=16/\∀W∈Z,W.rightB=true/\W.key.length<=1000000):=Lh ⟨by rw[au];exact Gi _ _ _,λW hW=>by
  rw[au]at hW;obtain⟨_,h1,_,_,_,h2⟩:=rY hW;exact⟨h1,by rw[h2];exact hk⟩⟩
 have ZC:Hid (Calls prog 134 #[pv] w1 (λe d=>∃v',e=.returned v'/\dm d w1.heap.size v' l/\Bw w1 d)):=Lh (yU w1 pv l (hA.below H1.out.2.2.2.2.1) (by omega))
 obtain⟨VQ,Yi⟩:=Nm (Value.agg q.cells);have uH:Hid (∀d,Calls prog 184 #[VQ,Sv x.key,.int .i64 x.time] d (qm d Z)):=by
  rw[Yi,au];exact Lh (λd=>VD d q x.key x.time hk)
 have Ot:Hid (∀d a c (E:List bn) (W:bf),dS d a E->dJ q (E.map bn.p) 272->W.rightB=true/\W.key.length<=1000000->Calls prog 185 #[VQ,.slice a E.length c,.agg W.cells] d (HomeEnd d q E W)):=by
  rw[Yi];exact Lh (λd a c E W h1 h2 h3=>QL d q a c E W h1 (λy hy=>(h2.2.1 y.p (List.mem_map.2 ⟨y,hy,rfl⟩)).2.1) h2.1 h3.1 h3.2 (by have:=h2.2.2;rw[bfz]at this;omega))
 have aI:Hid (∀d (W:bf),W.key.length<=1000000->Calls prog 179 #[VQ,.agg W.cells,.int .i64 m] d (Below0 d (.bool (kD q W m)))):=by
  rw[Yi];exact Lh (λd W h=>yJ d q W m h)
 have bj:Hid (∀d (W:bf),W.key.length<=1000000->Calls prog 180 #[.agg W.cells,.int .i64 m] d (Below0 d (.bool (kG W m)))):=Lh (λd W h=>yK d W m h);have IC:Hid (∀d (W:bf) a c (G:List bn),dS d a G->(∀y∈G,di d y)->tY G->Calls prog 186 #[VQ,.agg W.cells,.slice a G.length c,.int .i64 v_] d (rC d (dK q W (G.map bn.p) v_).1 (dK q W (G.map bn.p) v_).2)):=by
  rw[Yi];exact Lh (λd W a c G h1 h2 h3=>MM d q W a c G v_ h1 h2 h3)
 have uK:Hid (∀d (y:bn),di d y->y.p.a.top.length<=1000000->Calls prog 187 #[VQ,.agg y.cells] d (xX d (lK q y.p))):=by
  rw[Yi];exact Lh (λd y h hn=>DK d q y h hn)
 obtain⟨N,hN⟩:=Nm (Z.length);have HN:Hid (N=Z.length/\N<=16):=Lh ⟨hN,by rw[hN];exact aw.out.1⟩
 clear hP ao hA M ak hk ar au aK hN;obtain⟨Q,hQ⟩:=Nm q;rw[<-hQ]at H1 YU Zw Z4 XY HA Ot aI IC uK;obtain⟨X,hX⟩:=Nm x;rw[<-hX]at H1 Zw uH;obtain⟨S,size,J,late,agg,kq⟩:=q;obtain⟨Za,xk,xt,xv⟩:=x;simp only at aL;subst aL;have Ew:Hid (X.value=v_/\X=⟨Za,xk,xt,v_⟩/\X.key=xk/\X.time=xt):=by rw[hX];exact Lh ⟨rfl,rfl,rfl,rfl⟩
 have Zi:Hid (VQ=.agg #[.int .i64 S,.int .i64 size,.int .i64 J,.int .i64 late,.int .i64 agg,.int .i64 kq]):=Lh Yi;have Yy:Hid (∀d,dB d qb Q->D6 d qb S size J late agg kq):=by rw[hQ];exact Lh (λd h=>h.d6)
 have iI:Hid (∀d,lq d xb X->DX d xb Za xk xt v_):=by rw[hX];exact Lh (λd h=>h.dx)
 rw[Ew.out.2.2.1,Ew.out.2.2.2,Zi.out]at uH;rw[<-Ew.out.1]at YU Zw Z4 XY;rw[Zi.out]at Ot aI IC uK;have Oo:Hid (∀d (W:bf) a c (G:List bn),dS d a G->(∀y∈G,di d y)->tY G->Calls prog 186 #[.agg #[.int .i64 S,.int .i64 size,.int .i64 J,.int .i64 late,.int .i64 agg,.int .i64 kq],.agg W.cells,.slice a G.length c,.int .i64 v_] d (rC d (dK Q W (G.map bn.p) X.value).1 (dK Q W (G.map bn.p) X.value).2)):=by
  rw[Ew.out.1];exact IC
 clear IC;clear Yi hQ hX EL;obtain⟨n,hn⟩:=Nm (l.length);rw[<-hn]at a0;have cd:=Lh hn;clear hn;subst a0;unfold bu.cells ItemL.cells at av ⊢;simp only at av;have bm:(w.alloc (.cells #[.int .i64 S,.int .i64 size,.int .i64 J,.int .i64 late,.int .i64 agg,.int .i64 kq] 23)).heap.size=w.heap.size+1:=bg w _;have bo:((w.alloc (.cells #[.int .i64 S,.int .i64 size,.int .i64 J,.int .i64 late,.int .i64 agg,.int .i64 kq] 23)).alloc (.cells #[.int .i64 m,.slice sa n sc] 72)).heap.size=w.heap.size+2:=by rw[bg,bg]
 have bp:(((w.alloc (.cells #[.int .i64 S,.int .i64 size,.int .i64 J,.int .i64 late,.int .i64 agg,.int .i64 kq] 23)).alloc (.cells #[.int .i64 m,.slice sa n sc] 72)).alloc (.cells #[.int .i64 Za,Sv xk,.int .i64 xt,.int .i64 v_] 32)).heap.size=w.heap.size+3:=by rw[bg,bg,bg]
 obtain⟨e0,e1⟩:=H1.out.2.1.d2;go_enter func135,ntmps135;go_upto_region 1 with fail;rw[<-av,<-aB,<-aN,<-aM,<-XW];clear av aB aN aM XW bm bo bp;go_wp2_with fail;refine ZC.out.mono ?_;rintro e w2 ⟨bq,rfl,hO,F⟩;have H2:Hid (dm w2 B bq l/\Bw w w2/\dB w2 qb Q/\bZ w2 sb m (.slice sa n sc)/\lq w2 xb X/\bZ w2 I 0 bM/\B<=w2.heap.size):=by
  have a1:=F.size;rw[ab.out.2.2]at hO a1;exact Lh ⟨hO,H1.out.2.2.2.2.1.trans (F.mono H1.out.2.2.2.2.1.size),H1.out.1.below F,H1.out.2.1.below F,H1.out.2.2.1.below F,H1.out.2.2.2.1.below F,a1⟩
 clear F hO e0 e1;dsimp only;obtain⟨br,bs,rfl,al,am⟩:=H2.out.1.form;clear al am;obtain⟨d0,d1,d2,d3,d4,d5⟩:=Yy.out w2 H2.out.2.2.1;obtain⟨x0,x1,x2,x3⟩:=iI.out w2 H2.out.2.2.2.2.1;go_wp2_with fail;rename_i K hK;refine(uH.out w2).mono ?_;rintro e w3 ⟨wv,rfl,hO,F⟩;have a2:Hid (wM w qb sb xb I B Q m (.slice sa n sc) X wv Z (.slice br l.length bs) l bM [] w3):=by
  obtain⟨j1,j2,j3,j4,j5,j6,j7⟩:=H2.out;obtain⟨⟨b0,_⟩,_⟩:=ab.out;exact Lh ⟨⟨j3.below F,j4.below F,j5.below F,j6.below F⟩,hO.mono j7,⟨j1.far F,λz hz=>⟨(HA.out.2.1 z hz).below (Tb j2 F),λa n' c e hn he=>by have h1:=Yv.out z hz a n' c e hn;have h2:=j1.lt he;omega⟩⟩,⟨fU.nil _ _,λz hz=>by simp at hz⟩,Tb j2 F,λz hz=>by simp at hz,λz hz a n' c e hn he=>by simp[bM,Value.ownBlock]at he⟩
 obtain⟨wa,wc,rfl,al,am⟩:=hO.form;clear al am;rw[<-HN.out.1]at a2;rw[<-HN.out.1];clear F hO d0 d1 d2 d3 d4 d5 x0 x1 x2 x3;dsimp only;go_wp2_with fail;go_loopw[9,10,11,29] (WV w qb sb xb I B Q m (.slice sa n sc) X (.slice wa N wc) Z c0 256) (λ_ _ _ i _=>N-(intOf i).toNat)
 case atStart=>
  refine⟨0,bgi _,rfl,l,[],true,rfl,bfx _,?_,?_,a2.out⟩
  ·rw[List.drop_zero,HA.out.2.2.2.2,HA.out.2.2.2.1];rfl
  rw[<-HA.out.2.2.2.1];exact HA.out.2.2.1
 case round=>
  obtain⟨i,hi,rfl,E,ol,lt,rfl,a3,a4,ak,hI⟩:=hrel;rw[<-HN.out.1]at hi;have HO:=Lh (bfy a3 (bfy a4 (bfy ak hI)));obtain⟨na,nc,rfl,al,am⟩:=hI.2.2.1.1.form;obtain⟨oa,oc,rfl,bv,UN⟩:=hI.2.2.2.1.1.form;clear al am bv UN a3 a4 ak hI;by_cases aD:i<N
  ·have cc:N<=16:=HN.out.2;have ce:(0:Int)<=(i:Int)/\(i:Int)<(N:Int):=by omega
   obtain⟨W,pa,Ym,hx,bw,a6,c1,c2⟩:=(dQ.at HO.out.2.2.2.2.1).get (t:=i) (by rw[<-HN.out.1];exact aD)
   subst bw;have HX:Hid (W∈Z/\Z[i]? =some W/\i<N):=Lh ⟨bf3 hx,hx,aD⟩;clear hx hi aD;obtain⟨W_,uZ⟩:=Nm (W:bf);rw[<-uZ]at HX;obtain⟨wk,wl,wh⟩:=W;simp only at a6 c1 c2;go_upto_region 5 with fail;refine bg4 ?_
   iterate 9 go_step
   refine bg6 rfl _ _ _ rfl wr.heap.size (bf.mk wk wl wh).cells rfl rfl 34 bF.cells (bg5 wr _) bz rfl (bG _) ?_;obtain⟨wx,aO⟩:=Nm ((wr.alloc (Obj.cells #[.string ⟨#[]⟩,.int .i64 0,.int .i64 0] 34)).setRow wr.heap.size (bf.mk wk wl wh).cells);obtain⟨wb,aP⟩:=Nm (wr.heap.size);have X3:Hid (dH wx wb W_/\wM w qb sb xb I B Q m (.slice sa n sc) X (.slice (some ⟨pa,Ym,none⟩) N wc) Z (.slice na E.length nc) E (.slice oa ol.length oc) ol wx):=by
    obtain⟨k1,k2⟩:=kH wr (bf.mk wk wl wh);rw[aO,aP,uZ];exact Lh ⟨k1,HO.out.2.2.2.below k2⟩
   rw[<-aO,<-aP];clear aO aP a6 c1 c2;have OX:Hid (W_=⟨wk,wl,wh⟩):=Lh uZ;have oP:Hid (∀d,dH d wb W_->D3 d wb wk wl wh):=by rw[uZ];exact Lh (λd h=>h.d3)
   have AL:Hid (Calls prog 185 #[.agg #[.int .i64 S,.int .i64 size,.int .i64 J,.int .i64 late,.int .i64 agg,.int .i64 kq],.slice na E.length nc,.agg #[Sv wk,.int .i64 wl,.int .i64 wh]] wx (HomeEnd wx Q E W_)):=by
    have h:=Ot.out wx na nc E W_ (dm.at X3.out.2.2.2.1.1) ⟨HO.out.2.2.1.1,HO.out.2.2.1.2.1,by have:=HO.out.2.2.1.2.2;have:=HX.out.2.2;have:=HN.out.2;omega⟩ (aw.out.2 W_ HX.out.1)
    rw[uZ]at h ⊢;exact Lh h
   clear uZ;obtain⟨d0,d1,d2,d3,d4,d5⟩:=Yy.out wx X3.out.2.1.1;obtain⟨f0,f1,f2⟩:=oP.out wx X3.out.1;go_upto_region 6 with fail;refine bg4 ?_
   iterate 9 go_step
   refine wpList_plain rfl λK' ac=>?_;go_step;refine AL.out.mono ?_;rintro e w5 ⟨lA,lG,lB,hl,a7,a8,Uc,aQ,rfl,F⟩;refine ac _ _ ?_;clear ac d0 d1 d2 d3 d4 d5 f0 f1 f2;obtain⟨Yh,Yn⟩:=Nm (dV Q (E.map bn.p) W_);rw[<-Yn]at Uc aQ;rw[<-Yn];have Yc:Hid (E=lA++lG++lB/\lG.map bn.p=fO Q (E.map bn.p) W_/\(lA++lB).map bn.p=pg Q (E.map bn.p) W_/\(∀a∈lA,bK a.p.w Yh)/\(∀x∈lB,bK Yh x.p.w)/\Yh=dV Q (E.map bn.p) W_/\Yh.key.length<=1000000):=Lh ⟨hl,a7,a8,Uc,aQ,Yn,by rw[Yn,Ha (aw.out.2 W_ HX.out.1).1];exact(aw.out.2 W_ HX.out.1).2⟩
   have H5:=Lh (X3.out.2.below F);obtain⟨nA,aR⟩:=Nm (lA.length);obtain⟨nJ,UC⟩:=Nm (lA.length+lG.length);have aa:Hid (nA=lA.length/\nJ=lA.length+lG.length/\E.length=lA.length+lG.length+lB.length/\E.length<=272):=Lh ⟨aR,UC,by rw[hl,bft,bft],by have:=HO.out.2.2.1.2.2;rw[bfz]at this;have:=HX.out.2.2;have:=HN.out.2;omega⟩
   rw[<-UC,<-aR];clear hl a7 a8 Uc aQ Yn F aR UC X3 AL oP;obtain⟨L,an⟩:=Nm (Yh:bf);rw[<-an]at Yc;obtain⟨bk,bl,bh⟩:=Yh;have bA:Hid (L=⟨bk,bl,bh⟩):=Lh an
   iterate 15 go_step
   refine bg6 rfl _ _ _ rfl w5.heap.size (bf.mk bk bl bh).cells rfl rfl 34 bF.cells (bg5 w5 _) bz rfl (bG _) ?_;obtain⟨w6,aT⟩:=Nm ((w5.alloc (Obj.cells #[.string ⟨#[]⟩,.int .i64 0,.int .i64 0] 34)).setRow w5.heap.size (bf.mk bk bl bh).cells);obtain⟨cb,aU⟩:=Nm (w5.heap.size);have H6:Hid (dH w6 cb L/\wM w qb sb xb I B Q m (.slice sa n sc) X (.slice (some ⟨pa,Ym,none⟩) N wc) Z (.slice na E.length nc) E (.slice oa ol.length oc) ol w6):=by
    obtain⟨k1,k2⟩:=kH w5 (bf.mk bk bl bh);rw[aT,aU,an];exact Lh ⟨k1,H5.out.below k2⟩
   rw[<-aT,<-aU];have og:Hid (∀d,dH d cb L->D3 d cb bk bl bh):=by rw[an];exact Lh (λd h=>h.d3)
   clear aT aU H5;obtain⟨gn,aV⟩:=Nm (kD Q L m);obtain⟨rp,Y7⟩:=Nm (kG L m);have aW:Hid (∀d,Calls prog 179 #[.agg #[.int .i64 S,.int .i64 size,.int .i64 J,.int .i64 late,.int .i64 agg,.int .i64 kq],.agg #[Sv bk,.int .i64 bl,.int .i64 bh],.int .i64 m] d (Below0 d (.bool gn))):=by
    have h:=λd=>aI.out d L Yc.out.2.2.2.2.2.2;rw[<-aV,an]at h;exact Lh h
   have oL:Hid (∀d,Calls prog 180 #[.agg #[Sv bk,.int .i64 bl,.int .i64 bh],.int .i64 m] d (Below0 d (.bool rp))):=by
    have h:=λd=>bj.out d L Yc.out.2.2.2.2.2.2;rw[<-Y7,an]at h;exact Lh h
   have ax:Hid (gn=kD Q L m/\rp=kG L m):=Lh ⟨aV,Y7⟩;clear aV Y7 an;obtain⟨d0,d1,d2,d3,d4,d5⟩:=Yy.out w6 H6.out.2.1.1;obtain⟨f0,f1,f2⟩:=og.out w6 H6.out.1;obtain⟨e0,e1⟩:=H6.out.2.1.2.1.d2
   cases gn with
   | true=>
    go_wp2_with fail;refine(aW.out w6).mono ?_;rintro e w7 ⟨rfl,F⟩;have H7:=Lh (H6.out.2.below F);clear F d0 d1 d2 d3 d4 d5 e0 e1 f0 f1 f2;dsimp only;go_wp2_with fail;refine⟨⟨i+1,by rw[<-HN.out.1];exact HX.out.2.2,rfl,E,ol,lt,rfl,by have:=HO.out.1;omega,?_,?_,H7.out⟩,by rw[dO,dO];have:=HX.out.2.2;omega⟩
    ·rw[qQ HO.out.2.1 HX.out.2.1,mO,<-Yc.out.2.2.2.2.2.1,<-ax.out.1,if_pos rfl,if_pos rfl]
    exact⟨HO.out.2.2.1.1,HO.out.2.2.1.2.1,by have:=HO.out.2.2.1.2.2;omega⟩
   | false=>
    go_wp2_with fail;refine(aW.out w6).mono ?_;rintro e w7 ⟨rfl,F⟩;have H7:Hid (dH w7 cb L/\wM w qb sb xb I B Q m (.slice sa n sc) X (.slice (some ⟨pa,Ym,none⟩) N wc) Z (.slice na E.length nc) E (.slice oa ol.length oc) ol w7):=Lh ⟨H6.out.1.below F,H6.out.2.below F⟩;clear F d0 d1 d2 d3 d4 d5 e0 e1 f0 f1 f2 H6;dsimp only;go_upto_region 9 with fail;obtain⟨gp,iM⟩:=Nm ((dK Q L (fO Q (E.map bn.p) W_) X.value).1);obtain⟨er,aE⟩:=Nm ((dK Q L (fO Q (E.map bn.p) W_) X.value).2);have Zh:Hid ((er≠0->dW Q m X.value Z c0=⟨[],[],false,er⟩)/\(er=0->1073741824<(gy gp m).r->dW Q m X.value Z c0=⟨[],[],false,20⟩)/\
      (er=0->¬1073741824<(gy gp m).r->dJ Q (lA.map bn.p++gy gp m::lB.map bn.p) (256+i+1)/\dW Q m X.value Z c0=dW Q m X.value (Z.drop (i+1)) ⟨lA.map bn.p++gy gp m::lB.map bn.p,ol.map bH.o++(if rp=true then [lK Q (gy gp m)]else []),false,0⟩)/\
      (er=0->(0<=gp.r/\gp.r<=1073741824)/\gp.a.top.length<=1000000/\gp.w=L)):=by
     obtain⟨k1,k2,k3,k4,k5,k6,k7⟩:=Yc.out;rw[ax.out.2];rw[k6]at iM aE ⊢;exact Lh (Qc HO.out.2.1 HX.out.2.1 HO.out.2.2.1 (aw.out.2 W_ HX.out.1) (by rw[<-k3,bgl]) (λa ha=>by obtain⟨z,hz,rfl⟩:=List.mem_map.1 ha;rw[<-k6];exact k4 z hz) (λa ha=>by obtain⟨z,hz,rfl⟩:=List.mem_map.1 ha;rw[<-k6];exact k5 z hz) (by rw[<-k6];exact ax.out.1.symm) iM aE)
    obtain⟨a5,c5,a9,Ub⟩:=Np (i:=nA) (j:=nJ) H7.out.2.2.2.1.1 (by have:=aa.out;omega) (by have:=aa.out;omega)
    have iK:(E.take nJ).drop nA=lG:=by
     obtain⟨k1,k2,_,_⟩:=aa.out;rw[Yc.out.1,k1,k2,List.take_append_of_le_length (by rw[bft];omega),List.take_of_length_le (by rw[bft];omega),List.drop_left]
    rw[iK]at Ub;obtain⟨nG,ba⟩:=Nm (nJ - nA);rw[<-ba]at a9;have Ih:nG=lG.length:=by have:=aa.out;omega
    have aY:Hid (∀d,Bw w7 d->Calls prog 186 #[.agg #[.int .i64 S,.int .i64 size,.int .i64 J,.int .i64 late,.int .i64 agg,.int .i64 kq],.agg #[Sv bk,.int .i64 bl,.int .i64 bh],.slice a5 nG c5,.int .i64 v_] d (rC d gp er)):=by
     have aJ:∀y∈lG,y∈E:=λy hy=>by rw[Yc.out.1];simp[hy]
     refine Lh (λd h=>?_);have h2:=Oo.out d L a5 c5 lG (Ub.below h) (λy hy=>(H7.out.2.2.2.1.2 y (aJ y hy)).1.below h) ⟨λy hy=>(HO.out.2.2.1.2.1 y.p (List.mem_map.2 ⟨y,aJ y hy,rfl⟩)).2,by have:=aa.out;omega⟩
     rw[Yc.out.2.1,<-iM,<-aE,<-Ih,bA.out]at h2;exact h2
    have aF:Hid (Bw w7 w7.drew):=Lh (Below.refl _ w7).drew;have IK:Hid (∀d,Bw w7 d->D6 d qb S size J late agg kq):=Lh (λd h=>Yy.out d (H7.out.2.1.1.below h));have Og:Hid (∀d,Bw w7 d->D3 d cb bk bl bh):=Lh (λd h=>og.out d (H7.out.1.below h));have uN:Hid (∀d,Bw w7 d->DX d xb Za xk xt v_):=Lh (λd h=>iI.out d (H7.out.2.1.2.2.1.below h));have Ir:∀d,Bw w7 d->∃b,Value.pointer (some ⟨d.heap.size,0,none⟩)=.pointer (some ⟨b,0,none⟩)/\w7.heap.size<=b/\(if 1<=1 then dw (d.alloc (.cells dh.cells 131)) b dh else ∃Y:bn,dw (d.alloc (.cells dh.cells 131)) b Y/\Fj w7.heap.size gp (d.alloc (.cells dh.cells 131)) Y):=λd h=>⟨_,rfl,h.size,bg5 d _⟩
    clear iM aE Ub iK ba Ih;refine wp_region_skipA (λi=>([]:List Nat).contains i) (by kernel_rfl) (NoF (NoF [none,none,some 0,some 1,none])) [12,13] (PP (([.agg #[.int .i64 S,.int .i64 size,.int .i64 J,.int .i64 late,.int .i64 agg,.int .i64 kq],.agg #[Sv bk,.int .i64 bl,.int .i64 bh],.slice na E.length nc,.int .i64 (nA:Int),.int .i64 (nJ:Int),.slice a5 nG c5,.pointer (some ⟨xb,3,none⟩),.int .i64 v_,undef,undef,undef,.int .i64 er,undef,undef,.int .i64 er]:List Value)) (V6 w7.heap.size gp er)) (λ_ d=>Bw w7 d) (λw d=>Bw w d) (vK _ _ V7) (by kernel_rfl) (by kernel_rfl) (by kernel_rfl) aF.out (λ_=>⟨rfl,rfl,rfl,rfl,rfl,rfl,rfl,rfl,rfl,rfl,rfl,rfl,rfl,rfl,rfl,trivial⟩) (λ_ h=>by simp at h) ?_ ?_
    ·refine ⟨?_,?_,?_,?_,?_,?_,?_,?_,?_,?_,?_,?_,?_,?_,?_,trivial⟩<;>(first|(intro _ _ a d M XR XU K hK;guard_hyp d:World)|intro _ a d M XR XU K hK)<;>replace XR:=Lh XR<;>replace XU:=Lh XU
     have q3:=FaA XR 3 qb 0;obtain⟨d0,d1,d2,d3,d4,d5⟩:=IK.out d M;rotate_left;have cf:=FaA XR 14 cb 0;obtain⟨f0,f1,f2⟩:=Og.out d M;rotate_left;have q9:=FoA XR 9 (.slice na E.length nc);rotate_left;have cg:=FiA XR 15 nA;rotate_left;have ch:=FiA XR 16 nJ;rotate_left;have UU:=Ep a 49 (.slice na E.length nc) XU.out.1;have ci:=Pi a 50 nA XU.out.2.1;have UV:=Pi a 51 nJ XU.out.2.2.1;rotate_left;have q5:=FaA XR 5 xb 0;rotate_left;have cj:=Pa a 53 xb 3 XU.out.1;obtain⟨x0,x1,x2,x3⟩:=uN.out d M;rotate_left
     ·have uk:=Ep a 47 (.agg #[.int .i64 S,.int .i64 size,.int .i64 J,.int .i64 late,.int .i64 agg,.int .i64 kq]) XU.out.1;have iW:=Ep a 48 (.agg #[Sv bk,.int .i64 bl,.int .i64 bh]) XU.out.2.1;have I9:=Ep a 52 (.slice a5 nG c5) XU.out.2.2.1;have ck:=Pi a 54 v_ XU.out.2.2.2.1;have HS:=Lh (aY.out d M);go_step;refine HS.out.mono ?_;rintro e w3 ⟨Y,bB,rfl,bE,F,bL⟩;exact hK _ _ ⟨Y,rfl,bB,bE,λa n c e=>bgn M.size (bL a n c e)⟩ (Tb M F) F
     ·obtain ⟨p0,_⟩:=XU.out;obtain⟨Y,hv,hY⟩:=(show ∃Y:bn,a.eval (.tmp 55)=.tuple #[.agg Y.cells,.int .i64 er]/\Fj w7.heap.size gp d Y from p0);have cm:=ev_of hv;clear hv;go_step;exact hK _ _ ⟨Y,rfl,hY⟩ M Br
     ·obtain ⟨p0,_⟩:=XU.out;obtain⟨Y,hv,hY⟩:=(show ∃Y:bn,a.eval (.tmp 46)=.tuple #[.agg Y.cells,.int .i64 er]/\Fj w7.heap.size gp d Y from p0);have Am:=ev_of hv;clear hv;go_step;exact hK _ _ ⟨Y,rfl,hY⟩ M Br
     obtain ⟨p0,_⟩:=XU.out;obtain⟨Y,hv,hY⟩:=(show ∃Y:bn,a.eval (.tmp 46)=.tuple #[.agg Y.cells,.int .i64 er]/\Fj w7.heap.size gp d Y from p0);have Am:=ev_of hv;clear hv;rotate_left
     ·go_step;exact hK _ _ (Ir d M) (M.trans (((Below.refl _ d).alloc (bfx _) _).mono M.size)) (jq _ (PH ((Below.refl _ d).alloc (bfx _) _)))
     ·obtain⟨p0,p1,_⟩:=XU.out;obtain⟨b,hv,ay,D⟩:=(show ∃b,a.eval (.tmp 17)=.pointer (some ⟨b,0,none⟩)/\w7.heap.size<=b/\(if 1<=1 then dw d b dh else ∃Y:bn,dw d b Y/\Fj w7.heap.size gp d Y)from p0)
      obtain⟨Y,bN,hY⟩:=(show ∃Y:bn,a.eval (.tmp 56)=.agg Y.cells/\Fj w7.heap.size gp d Y from p1);rw[if_pos (bfx 1)]at D;refine RN (.tmp 17) (.tmp 56) rfl b Y dh hv bN D ?_;have hg:=bD d b Y.cells;have bO:dw (d.setRow b Y.cells) b Y:=setRow_heap _ _ _ _ _ _ D;exact hK _ _ rfl (M.trans ⟨hg.os,hg.tape,hg.output,hg.size,λk hk=>hg.block k (by have:=M.size;omega) (by simp;omega)⟩) (jq _ (RU rfl hv D ay hg bO (hY.store D hg)))
     have cn:=Pi a 57 er XU.out.1;rotate_left
     all_goals(go_step;exact hK _ _ rfl M Br)
    intro vs w8 M az hV
    match vs,az,hV with
    | [v0,v1,v2,v3,v4,v5,v6,v7,v8,v9,v10,v11,v12,v13,v14],_,hV=>
     obtain⟨pb,bR,bb,D⟩:=(show ∃b,v12=.pointer (some ⟨b,0,none⟩)/\w7.heap.size<=b/\(if 2<=1 then dw w8 b dh else ∃Y:bn,dw w8 b Y/\Fj w7.heap.size gp w8 Y)from hV 12 17 v12 rfl rfl)
     obtain rfl:v14=.int .i64 er:=hV 14 18 v14 rfl rfl;rw[if_neg (by decide)]at D
     obtain⟨Y,D,hY⟩:=D;subst bR;clear hV;have H8:Hid (dH w8 cb L/\wM w qb sb xb I B Q m (.slice sa n sc) X (.slice (some ⟨pa,Ym,none⟩) N wc) Z (.slice na E.length nc) E (.slice oa ol.length oc) ol w8/\dw w8 pb Y/\Fj w7.heap.size gp w8 Y/\w7.heap.size<=pb):=Lh ⟨H7.out.1.below M,H7.out.2.below M,D,hY,bb⟩;clear D hY bb M a9 Ir aF aY;simp only[putsL,bf7,bf1];simp only[Act.put,bfw,bfu,bfv];by_cases he:er=0
     ·have Y1:=Lh (Zh.out.2.2.1 he);have bS:=Lh (Zh.out.2.1 he);have aX:=Lh (Zh.out.2.2.2 he);subst he;clear Zh;obtain⟨e0,e1⟩:=H8.out.2.1.1.2.1.d2;obtain⟨f0,f1,f2⟩:=og.out w8 H8.out.1;go_upto_region 12 with fail;obtain⟨Y_,ig⟩:=Nm (Y:bn);rw[<-ig]at H8;obtain⟨⟨⟨yk,yl,yh⟩,⟨yn,ya,yt,yu,yv⟩,yr⟩,YK,yz,YN,ZN⟩:=Y;have EC:Hid (0<=yr/\yr<=1073741824):=by
       have h:=aX.out.1;rw[<-H8.out.2.2.2.1.1,ig]at h;exact Lh h
      have co:=EC.out
      cases rp with
      | false=>
       go_wp2_with fail;refine(oL.out w8).mono ?_;rintro e w9 ⟨rfl,F⟩;have H9:Hid (wM w qb sb xb I B Q m (.slice sa n sc) X (.slice (some ⟨pa,Ym,none⟩) N wc) Z (.slice na E.length nc) E (.slice oa ol.length oc) ol w9/\dw w9 pb Y_/\di w9 Y_):=Lh ⟨H8.out.2.1.below F,H8.out.2.2.1.below F,H8.out.2.2.2.1.2.1.below F⟩;clear F e0 e1 f0 f1 f2;dsimp only;have Zj:Hid (Y_=(bn.mk ⟨⟨yk,yl,yh⟩,⟨yn,ya,yt,yu,yv⟩,yr⟩ YK yz YN ZN)):=Lh ig;have uO:Hid (∀d,dw d pb Y_->D8 d pb (bn.mk ⟨⟨yk,yl,yh⟩,⟨yn,ya,yt,yu,yv⟩,yr⟩ YK yz YN ZN)):=by rw[ig];exact Lh (λd h=>h.d8)
       have aC:Hid (gy gp m=Y_.p):=by
        unfold gy;rw[if_neg (by rw[aX.out.2.2,<-ax.out.2];decide)]
        exact Lh H8.out.2.2.2.1.1.symm
       clear ig;obtain⟨g0,g1,g2,g3,g4,g5,g6,g7⟩:=uO.out w9 H9.out.2.1;go_upto_region 17 with fail;clear g0 g1 g2 g3 g4 g5 g6 g7;obtain⟨g0,g1,g2,g3,g4,g5,g6,g7⟩:=uO.out w9 H9.out.2.1;go_upto_region 17 with fail;refine bg4 ?_
       iterate 12 go_step
       refine jB rfl (.tmp 83) rfl Y_ (by show _=Value.agg (bn.cells _);rw[Zj.out];rfl) ?_
       have ae:Bw w9 (w9.alloc (.cells (bn.cells Y_) 131)):=(Below.refl _ w9).alloc (bfx _) _;obtain⟨wn,ag⟩:=Nm (w9.alloc (.cells (bn.cells Y_) 131));obtain⟨nb,ah⟩:=Nm (w9.heap.size);have D:dw wn nb Y_:=by rw[ag,ah];exact bg5 w9 _
       rw[<-ag]at ae;have Hn:Hid (wM w qb sb xb I B Q m (.slice sa n sc) X (.slice (some ⟨pa,Ym,none⟩) N wc) Z (.slice na E.length nc) E (.slice oa ol.length oc) ol wn/\dw wn nb Y_/\di wn Y_/\((.slice na E.length nc):Value).ownBlock≠some nb):=Lh ⟨H9.out.1.below ae,D,H9.out.2.2.below ae,by rw[ah];exact(H9.out.1.off (bfx _)).2.1⟩
       rw[<-ag,<-ah];clear ag ah ae D g0 g1 g2 g3 g4 g5 g6 g7;have oK:Hid (Calls prog 188 #[(.slice na E.length nc),.int .i64 (nA:Int),.int .i64 (nJ:Int),.slice (some ⟨nb,0,none⟩) 1 1] wn (lM wn B (.slice na E.length nc) (E.take nA++[Y_]++E.drop nJ))):=by
        have hl:=aa.out;have hs:=Hn.out.1.2.2.2.2.1.size;exact Lh (xC wn B nA nJ nb _ E Y_ Hn.out.1.2.2.1.1 Hn.out.2.1 Hn.out.2.2.2 (by omega) (by omega) (by have:=dQ.lt Hn.out.1.2.1 (k:=pa) rfl;omega) (by omega))
       refine wpList_plain rfl λK' ac=>?_;go_step;refine oK.out.mono ?_;rintro e wl ⟨iV,rfl,k1,k2,k3⟩;refine ac _ _ ?_;clear ac;have HZ:Hid (wM w qb sb xb I B Q m (.slice sa n sc) X (.slice (some ⟨pa,Ym,none⟩) N wc) Z iV (lA++[Y_]++lB) (.slice oa ol.length oc) ol wl):=by
        have h1:E.take nA=lA:=by rw[Yc.out.1,aa.out.1,bgz,List.take_left]
        have h2:E.drop nJ=lB:=by rw[Yc.out.1,aa.out.2.1,<-bft,List.drop_left]
        rw[h1,h2]at k1;refine Lh (Hn.out.1.Xo ab.out.1 (y:=Y_) (λz hz=>?_) Hn.out.2.2.1 (λa n c e _=>(H7.out.2.off (H8.out.2.2.2.1.2.2 a n c e)).2) k1 k2 k3);rw[Yc.out.1];simp only[bgg,bgd]at hz ⊢;rcases hz with(hz | hz) | hz
        ·exact .inl (.inl (.inl hz))
        ·exact .inr hz
        exact .inl (.inr hz)
       clear k1 k2 k3;go_wp2_with fail;refine⟨⟨i+1,by rw[<-HN.out.1];exact HX.out.2.2,rfl,lA++[Y_]++lB,ol,false,rfl,(by have:=HO.out.1;omega),?_,?_,HZ.out⟩,by rw[dO,dO];have:=HX.out.2.2;omega⟩
       ·have h:=(Y1.out (by rw[aC.out,Zj.out];first | exact EC.out.2 | exact Int.not_lt.2 EC.out.2)).2
        rw[aC.out,if_neg (by decide),bg2]at h
        rw[h];simp only[bgl,bgc,bgz,List.cons_append,List.nil_append]
       have h:=(Y1.out (by rw[aC.out,Zj.out];first | exact EC.out.2 | exact Int.not_lt.2 EC.out.2)).1
       rw[aC.out]at h;simp only[bgl,bgc,bgz,List.cons_append,List.nil_append];exact h
      | true=>
       go_wp2_with fail;refine(oL.out w8).mono ?_;rintro e w9 ⟨rfl,F⟩;have H9:Hid (wM w qb sb xb I B Q m (.slice sa n sc) X (.slice (some ⟨pa,Ym,none⟩) N wc) Z (.slice na E.length nc) E (.slice oa ol.length oc) ol w9/\dw w9 pb Y_/\di w9 Y_):=Lh ⟨H8.out.2.1.below F,H8.out.2.2.1.below F,H8.out.2.2.2.1.2.1.below F⟩;clear F e0 e1 f0 f1 f2;dsimp only;have Ez:Hid (∀d,dw d pb Y_->D8 d pb (bn.mk ⟨⟨yk,yl,yh⟩,⟨yn,ya,yt,yu,yv⟩,yr⟩ YK yz YN ZN)):=by rw[ig];exact Lh (λd h=>h.d8)
       obtain⟨g0,g1,g2,g3,g4,g5,g6,g7⟩:=Ez.out w9 H9.out.2.1;go_upto_region 13 with fail;refine bg4 ?_
       iterate 12 go_step
       refine wpList_store1 rfl _ (.tmp 69) (.tmp 68) rfl ⟨pb,7,none⟩ (.int .i64 (yr+1)) (.int .i64 yr) rfl rfl rfl rfl sizeOf3 g7 (dw.fro H9.out.2.1 7) ?_;obtain⟨ad,Yf⟩:=Nm (w9.setCell ⟨pb,7,none⟩ (.int .i64 (yr+1)));obtain⟨Z_,hZ⟩:=Nm (⟨⟨Y_.p.w,Y_.p.a,yr+1⟩,Y_.tv,Y_.z,Y_.ht,Y_.hz⟩:bn);have Yu:Hid (wM w qb sb xb I B Q m (.slice sa n sc) X (.slice (some ⟨pa,Ym,none⟩) N wc) Z (.slice na E.length nc) E (.slice oa ol.length oc) ol ad/\dw ad pb Z_/\di ad Z_):=by
        have hg:w9.grownBy ad (some pb):=by rw[Yf];exact grown_setCell _ _ _ _
        have M:=di.store H9.out.2.2 H9.out.2.1 hg;refine Lh ⟨H9.out.1.set ab.out.1 (by have:=dQ.lt H7.out.2.2.1 (k:=pa) rfl;have:=H8.out.2.2.2.2;omega) H9.out.2.1 (H7.out.2.off H8.out.2.2.2.2) hg,by rw[hZ,Yf];exact H9.out.2.1.WO _,?_⟩
        rw[hZ];exact⟨M.1,M.2⟩
       have aC:Hid (gy gp m=Z_.p):=by
        have hp:=H8.out.2.2.2.1.1;have hr:gp.r=yr:=by rw[<-hp,ig]
        unfold gy;rw[if_pos (by rw[aX.out.2.2];exact ax.out.2.symm),hZ,<-hr,hp]
        exact Lh rfl
       have Zj:Hid (Z_=(bn.mk ⟨⟨yk,yl,yh⟩,⟨yn,ya,yt,yu,yv⟩,(yr+1)⟩ YK yz YN ZN)):=by rw[hZ,ig];exact Lh rfl
       have uO:Hid (∀d,dw d pb Z_->D8 d pb (bn.mk ⟨⟨yk,yl,yh⟩,⟨yn,ya,yt,yu,yv⟩,(yr+1)⟩ YK yz YN ZN)):=by rw[Zj.out];exact Lh (λd h=>h.d8)
       have O1:Hid (Z_.tv=Y_.tv/\Z_.p.a.top.length<=1000000):=by
        rw[hZ];refine Lh ⟨rfl,?_⟩;show Y_.p.a.top.length<=1000000;rw[H8.out.2.2.2.1.1];exact aX.out.2.1
       rw[<-Yf];clear Yf hZ ig g0 g1 g2 g3 g4 g5 g6 g7 H9 Ez;have HT:Hid (Calls prog 187 #[.agg #[.int .i64 S,.int .i64 size,.int .i64 J,.int .i64 late,.int .i64 agg,.int .i64 kq],.agg #[Sv yk,.int .i64 yl,.int .i64 yh,.int .i64 yn,.int .i64 ya,YK,yz,.int .i64 (yr+1)]] ad (xX ad (lK Q Z_.p))):=by
        have h:=uK.out ad Z_ Yu.out.2.2 O1.out.2;rw[Zj.out]at h ⊢;exact Lh h
       obtain⟨d0,d1,d2,d3,d4,d5⟩:=Yy.out ad Yu.out.1.1.1;obtain⟨g0,g1,g2,g3,g4,g5,g6,g7⟩:=uO.out ad Yu.out.2.1;go_upto_region 14 with fail;refine bg4 ?_
       iterate 9 go_step
       refine wpList_plain rfl λK' ac=>?_;go_step;refine HT.out.mono ?_;rintro e Yj ⟨tv,ht,rfl,hI,F,af⟩;refine ac _ _ ?_;clear ac d0 d1 d2 d3 d4 d5 g0 g1 g2 g3 g4 g5 g6 g7;obtain⟨O,aj⟩:=Nm (⟨lK Q Z_.p,tv,ht⟩:bH);rw[<-aj];refine lU rfl (.tmp 73) rfl O rfl ?_;have aG:Bw Yj (Yj.alloc (.cells O.cells 37)):=(Below.refl _ Yj).alloc (bfx _) _;obtain⟨ap,Yg⟩:=Nm (Yj.alloc (.cells O.cells 37));obtain⟨ob,aZ⟩:=Nm (Yj.heap.size);have D:fH ap ob O:=by rw[Yg,aZ];exact bg5 Yj _
       rw[<-Yg]at aG;have YZ:Hid (wM w qb sb xb I B Q m (.slice sa n sc) X (.slice (some ⟨pa,Ym,none⟩) N wc) Z (.slice na E.length nc) E (.slice oa ol.length oc) ol ap/\dw ap pb Z_/\di ap Z_/\fH ap ob O/\dL ap O/\O.o=lK Q Z_.p/\∀a n c,O.tv=.slice (some a) n c->ad.heap.size<=a.block):=by
        have hb:=Tb F aG;refine Lh ⟨Yu.out.1.below hb,Yu.out.2.1.below hb,Yu.out.2.2.below hb,D,?_,by rw[aj],by rw[aj];exact af⟩
        rw[aj];exact hI.below aG
       have bX:=Lh YZ.out.2.2.2.2.2.1;rw[<-Yg,<-aZ];clear Yg aZ aG F hI af aj D;refine qR rfl (.tmp 70) (.tmp 74) rfl B _ ol rfl YZ.out.1.2.2.2.1.1 O ob rfl (λj z hz=>YZ.out.2.2.2.1.cell j hz) (by have:=HO.out.1;have:=HX.out.2.2;omega) (by have:=dQ.lt YZ.out.1.2.1 (k:=pa) rfl;omega) ?_
       intro v7 ZA g1 g2 g3;have iD:Hid (wM w qb sb xb I B Q m (.slice sa n sc) X (.slice (some ⟨pa,Ym,none⟩) N wc) Z (.slice na E.length nc) E v7 (ol++[O]) ZA/\dw ZA pb Z_/\di ZA Z_):=by
        refine Lh ⟨YZ.out.1.out ab.out.1 YZ.out.2.2.2.2.1 (λa n c e _=>(Yu.out.1.off (YZ.out.2.2.2.2.2.2 a n c e)).2) g1 g2 g3,grown_row g2 YZ.out.2.1 (λe=>(H7.out.2.off H8.out.2.2.2.2).2.2 e.symm),⟨bC.qC YZ.out.2.2.1.1 g2 (λa n c e hn=>(H7.out.2.off (H8.out.2.2.2.1.2.2 a n c (by rw[<-O1.out.1];exact e))).2.2),YZ.out.2.2.1.2⟩⟩
       have OG:Hid (∀a n c,Z_.tv=.slice (some a) n c->Z_.p.a.top≠[]->((.slice na E.length nc):Value).ownBlock≠some a.block/\v7.ownBlock≠some a.block):=by
        refine Lh (λa n c e hn=>?_);have h:=(H7.out.2.off (H8.out.2.2.2.1.2.2 a n c (by rw[<-O1.out.1];exact e))).2
        refine⟨h.1,λhe=>?_⟩;rcases g3 with g3 | g3
        ·rw[g3]at he;exact h.2 he
        rw[g3]at he;have:=bC.lt YZ.out.2.2.1.1 e hn;have b1:=Option.some.inj he;omega
       clear g1 g2 g3;obtain⟨g0,g1,g2,g3,g4,g5,g6,g7⟩:=uO.out ZA iD.out.2.1;by_cases aA:1073741824<yr+1
       ·have b2:Hid (dW Q m X.value Z c0=⟨[],[],false,20⟩):=Lh (bS.out (by rw[aC.out,Zj.out];exact aA))
        go_upto_region 16 with fail;clear g0 g1 g2 g3 g4 g5 g6 g7;refine bg4 ?_
        iterate 0 go_step
        refine bV (by kernel_rfl) 72 _ rfl #[.int .i64 0,.slice none 0 0] (by first | exact ja | (simp only[bgb,bge];exact ja) | kernel_rfl) ?_
        iterate 0 go_step
        refine bg6 rfl _ _ _ rfl I #[.int .i64 0,.slice none 0 0] rfl rfl 72 #[.int .i64 0,bM] iD.out.1.1.2.2.2 bP rfl (dF rfl) ?_;obtain⟨R,U⟩:=Nm (ZA.setRow I #[.int .i64 0,.slice none 0 0]);have HZ:Hid (bZ R I 0 bM/\P (.returned (.tuple #[.agg #[.int .i64 0,.slice none 0 0],.slice none 0 0,.int .i64 20])) R):=by
         have hg:ZA.grownBy R (some I):=by rw[U];exact bD _ _ _
         have F:=iD.out.1.2.2.2.2.1;exact Lh ⟨by rw[U];exact bZ.reset iD.out.1.1.2.2.2 0 _,YU.out R ⟨[],[],false,20⟩ b2.out (by decide) (F.trans (bQ hg ab.out.2.1 F.size))⟩
        rw[<-U];clear U;go_wp2_with fail;exact bodyPost_ret (v:=.tuple #[.agg #[.int .i64 0,.slice none 0 0],.slice none 0 0,.int .i64 20]) ((dG (p:=6) (s:=7) (u:=8) (ty:=72) rfl _ _ I 72 #[.int .i64 0,.slice none 0 0] (0,0) _ rfl HZ.out.1 underlying72 rfl bP).trans rfl) rfl HZ.out.2
       go_upto_region 17 with fail;clear g0 g1 g2 g3 g4 g5 g6 g7;obtain⟨g0,g1,g2,g3,g4,g5,g6,g7⟩:=uO.out ZA iD.out.2.1;go_upto_region 17 with fail;refine bg4 ?_
       iterate 12 go_step
       refine jB rfl (.tmp 83) rfl Z_ (by show _=Value.agg (bn.cells _);rw[Zj.out];rfl) ?_
       have ae:Bw ZA (ZA.alloc (.cells (bn.cells Z_) 131)):=(Below.refl _ ZA).alloc (bfx _) _;obtain⟨wn,ag⟩:=Nm (ZA.alloc (.cells (bn.cells Z_) 131));obtain⟨nb,ah⟩:=Nm (ZA.heap.size);have D:dw wn nb Z_:=by rw[ag,ah];exact bg5 ZA _
       rw[<-ag]at ae;have Hn:Hid (wM w qb sb xb I B Q m (.slice sa n sc) X (.slice (some ⟨pa,Ym,none⟩) N wc) Z (.slice na E.length nc) E v7 (ol++[O]) wn/\dw wn nb Z_/\di wn Z_/\((.slice na E.length nc):Value).ownBlock≠some nb):=Lh ⟨iD.out.1.below ae,D,iD.out.2.2.below ae,by rw[ah];exact(iD.out.1.off (bfx _)).2.1⟩
       rw[<-ag,<-ah];clear ag ah ae D g0 g1 g2 g3 g4 g5 g6 g7;have oK:Hid (Calls prog 188 #[(.slice na E.length nc),.int .i64 (nA:Int),.int .i64 (nJ:Int),.slice (some ⟨nb,0,none⟩) 1 1] wn (lM wn B (.slice na E.length nc) (E.take nA++[Z_]++E.drop nJ))):=by
        have hl:=aa.out;have hs:=Hn.out.1.2.2.2.2.1.size;exact Lh (xC wn B nA nJ nb _ E Z_ Hn.out.1.2.2.1.1 Hn.out.2.1 Hn.out.2.2.2 (by omega) (by omega) (by have:=dQ.lt Hn.out.1.2.1 (k:=pa) rfl;omega) (by omega))
       refine wpList_plain rfl λK' ac=>?_;go_step;refine oK.out.mono ?_;rintro e wl ⟨iV,rfl,k1,k2,k3⟩;refine ac _ _ ?_;clear ac;have HZ:Hid (wM w qb sb xb I B Q m (.slice sa n sc) X (.slice (some ⟨pa,Ym,none⟩) N wc) Z iV (lA++[Z_]++lB) v7 (ol++[O]) wl):=by
        have h1:E.take nA=lA:=by rw[Yc.out.1,aa.out.1,bgz,List.take_left]
        have h2:E.drop nJ=lB:=by rw[Yc.out.1,aa.out.2.1,<-bft,List.drop_left]
        rw[h1,h2]at k1;refine Lh (Hn.out.1.Xo ab.out.1 (y:=Z_) (λz hz=>?_) Hn.out.2.2.1 OG.out k1 k2 k3);rw[Yc.out.1];simp only[bgg,bgd]at hz ⊢;rcases hz with(hz | hz) | hz
        ·exact .inl (.inl (.inl hz))
        ·exact .inr hz
        exact .inl (.inr hz)
       clear k1 k2 k3;go_wp2_with fail;refine⟨⟨i+1,by rw[<-HN.out.1];exact HX.out.2.2,rfl,lA++[Z_]++lB,ol++[O],false,rfl,(by rw[bft,bg0];have:=HO.out.1;omega),?_,?_,HZ.out⟩,by rw[dO,dO];have:=HX.out.2.2;omega⟩
       ·have h:=(Y1.out (by rw[aC.out,Zj.out];first | exact aA | exact Int.not_lt.1 aA)).2
        rw[aC.out,if_pos (by trivial),<-bX.out]at h
        rw[h];simp only[bgl,bgc,bge,bgz,List.cons_append,List.nil_append]
       have h:=(Y1.out (by rw[aC.out,Zj.out];first | exact aA | exact Int.not_lt.1 aA)).1
       rw[aC.out]at h;simp only[bgl,bgc,bgz,List.cons_append,List.nil_append];exact h
     have b1:(er==0)=false:=by simpa using he
     have b3:Hid (dW Q m X.value Z c0=⟨[],[],false,er⟩):=Lh (Zh.out.1 he);have uF:=Lh he;clear he Zh;go_upto_region 11 with fail;refine bg4 ?_
     iterate 0 go_step
     refine bV (by kernel_rfl) 72 _ rfl #[.int .i64 0,.slice none 0 0] (by first | exact ja | (simp only[bgb,bge];exact ja) | kernel_rfl) ?_
     iterate 3 go_step
     refine bg6 rfl _ _ _ rfl I #[.int .i64 0,.slice none 0 0] rfl rfl 72 #[.int .i64 0,bM] H8.out.2.1.1.2.2.2 bP rfl (dF rfl) ?_;obtain⟨R,U⟩:=Nm (w8.setRow I #[.int .i64 0,.slice none 0 0]);have HZ:Hid (bZ R I 0 bM/\P (.returned (.tuple #[.agg #[.int .i64 0,.slice none 0 0],.slice none 0 0,.int .i64 er])) R):=by
      have hg:w8.grownBy R (some I):=by rw[U];exact bD _ _ _
      have F:=H8.out.2.1.2.2.2.2.1;exact Lh ⟨by rw[U];exact bZ.reset H8.out.2.1.1.2.2.2 0 _,YU.out R ⟨[],[],false,er⟩ b3.out uF.out (F.trans (bQ hg ab.out.2.1 F.size))⟩
     rw[<-U];clear U;go_wp2_with fail;exact bodyPost_ret (v:=.tuple #[.agg #[.int .i64 0,.slice none 0 0],.slice none 0 0,.int .i64 er]) ((dG (p:=6) (s:=7) (u:=8) (ty:=72) rfl _ _ I 72 #[.int .i64 0,.slice none 0 0] (0,0) _ rfl HZ.out.1 underlying72 rfl bP).trans rfl) rfl HZ.out.2
  obtain rfl:i=N:=by omega
  clear aD hi;have HE:=Lh (RH HO.out.2.1 (by rw[<-HN.out.1];omega))
  have cp:E.length<=272:=by have h:=HO.out.2.2.1.2.2;rw[bfz]at h;have:=HN.out.2;omega
  cases lt with
  | true=>
   go_upto_region 20 with fail;obtain⟨ai,bc⟩:=Nm (⟨DF X,bM,rfl⟩:bH);have Ox:Hid (ai=⟨DF X,bM,rfl⟩/\Value.agg ai.cells=.agg #[.bool true,.int .i64 Za,Sv xk,.int .i64 xt,.int .i64 v_,.string ⟨#[]⟩,.int .i64 0,.int .i64 0,.int .i64 0,.slice none 0 0]):=by
    rw[bc,Ew.out.2.1];exact Lh ⟨rfl,rfl⟩
   clear bc;have b4:Hid (∀d,wr.grownBy d (some I)->D2 d sb m (.slice sa n sc)):=Lh (λd hg=>(HO.out.2.2.2.1.2.1.grown hg (by have:=uF.out;simp;omega)).d2)
   have uN:Hid (∀d,wr.grownBy d (some I)->DX d xb Za xk xt v_):=Lh (λd hg=>iI.out d (grown_row hg HO.out.2.2.2.1.2.2.1 (by have:=uF.out;simp;omega)))
   have AZ:Hid (sb≠I/\xb≠I/\I<wr.heap.size):=Lh ⟨uF.out.1,uF.out.2,HO.out.2.2.2.1.2.2.2.lt⟩;have aF:Hid (wr.grownBy wr.drew (some I)/\bZ wr.drew I (if 0=0 then 0 else m) (if 0=0 then bM else .slice sa n sc)):=by
    rw[if_pos rfl,if_pos rfl];exact Lh ⟨grown_below I (Below.refl _ wr).drew,HO.out.2.2.2.1.2.2.2.below (Below.refl _ wr).drew⟩
   refine wp_region_skipA (λi=>([]:List Nat).contains i) (by kernel_rfl) [none,none,none,none,some 0,none,none] [4] (PP (([.agg #[.int .i64 m,.slice sa n sc],.agg #[.int .i64 Za,Sv xk,.int .i64 xt,.int .i64 v_],.agg #[.bool true,.int .i64 Za,Sv xk,.int .i64 xt,.int .i64 v_,.string ⟨#[]⟩,.int .i64 0,.int .i64 0,.int .i64 0,.slice none 0 0],undef,undef,undef,.int .i64 0]:List Value)) (WZ wr.heap.size ai)) (λk d=>wr.grownBy d (some I)/\bZ d I (if k=0 then 0 else m) (if k=0 then bM else .slice sa n sc)) (λw d=>w.grownBy d (some I)) (vK _ _ (We AZ.out.2.2)) (by kernel_rfl) (by kernel_rfl) (by kernel_rfl) aF.out (λ_=>⟨rfl,rfl,rfl,rfl,rfl,rfl,rfl,trivial⟩) (λ_ h=>by simp at h) ?_ ?_
   ·refine ⟨?_,?_,?_,?_,?_,?_,?_,trivial⟩<;>(first|(intro _ _ a d M XR XU K hK;guard_hyp d:World)|intro _ a d M XR XU K hK)<;>replace XR:=Lh XR<;>replace XU:=Lh XU
    ·have q4:=FaA XR 4 sb 0;obtain⟨e0,e1⟩:=b4.out d M.1;go_step;exact hK _ _ rfl M (nH _ _)
    ·have q5:=FaA XR 5 xb 0;obtain⟨x0,x1,x2,x3⟩:=uN.out d M.1;go_step;exact hK _ _ rfl M (nH _ _)
    ·have cq:=Ep a 90 (.agg #[.int .i64 Za,Sv xk,.int .i64 xt,.int .i64 v_]) XU.out.1;have hb:=Lc Za xt v_ xk;go_step;exact hK _ _ rfl M (nH _ _)
    ·obtain ⟨p0,_⟩:=XU.out;have b5:=(show a.eval (.tmp 91)=.agg #[.bool true,.int .i64 Za,Sv xk,.int .i64 xt,.int .i64 v_,.string ⟨#[]⟩,.int .i64 0,.int .i64 0,.int .i64 0,.slice none 0 0]from p0);refine zo (.tmp 91) rfl ai (b5.trans Ox.out.2.symm) ?_;have F:=(Below.refl _ d).alloc (bfx _) (.cells ai.cells 37);have hg:=grown_below I F;exact hK _ _ ⟨_,rfl,M.1.size,bg5 d _⟩ ⟨mV M.1 hg,M.2.below F⟩ hg
    ·obtain ⟨p0,_⟩:=XU.out;have r6:=((XR.out 6 rfl).trans (show _=.pointer (some ⟨I,0,none⟩)from rfl));have b6:=(show a.eval (.tmp 89)=.agg #[.int .i64 m,.slice sa n sc]from p0);have D:=M.2;rw[if_pos rfl,if_pos rfl]at D;refine wp_store_row _ (.tmp 6) (.tmp 89) rfl I #[.int .i64 m,.slice sa n sc] r6 b6 _ _ D bP rfl (dF rfl) ?_;have hg:d.grownBy (d.setRow I #[.int .i64 m,.slice sa n sc]) (some I):=bD _ _ _;exact hK _ _ rfl ⟨mV M.1 hg,by rw[if_neg (by decide),if_neg (by decide)];exact D.reset m _⟩ (jq _ (RY AZ.out.2.2 hg))
    ·obtain ⟨p0,_⟩:=XU.out;obtain⟨b,hv,ay,D⟩:=(show ∃b,a.eval (.tmp 92)=.slice (some ⟨b,0,none⟩) 1 1/\wr.heap.size<=b/\fH d b ai from p0);have cr:=ev_of hv;clear hv;go_step;exact hK _ _ ⟨b,rfl,ay,D⟩ M (nH _ _)
    go_step;exact hK _ _ rfl M (nH _ _)
   intro vs w2 M az hV
   match vs,az,hV with
   | [v0,v1,v2,v3,v4,v5,v6],_,hV=>
    obtain⟨b,b7,ay,bd⟩:=(show ∃b,v5=.slice (some ⟨b,0,none⟩) 1 1/\wr.heap.size<=b/\fH w2 b ai from hV 5 7 v5 rfl rfl);obtain rfl:v6=.int .i64 0:=hV 6 8 v6 rfl rfl;subst b7;clear hV;have D:=M.2;rw[if_neg (by decide),if_neg (by decide)]at D
    have aH:Bw w w2:=HO.out.2.2.2.2.2.2.2.1.trans (bQ M.1 ab.out.2.1 HO.out.2.2.2.2.2.2.2.1.size);have HZ:Hid (bZ w2 I m (.slice sa n sc)/\P (.returned (.tuple #[.agg #[.int .i64 m,.slice sa n sc],.slice (some ⟨b,0,none⟩) 1 1,.int .i64 0])) w2):=Lh ⟨D,Zw.out w2 _ _ HE.out rfl rfl ⟨_,1,[ai],rfl,bfx _,dZ.one (λj z hz=>bd.cell j hz),λz hz=>by rw[List.mem_singleton.1 hz,Ox.out.1];exact bC.nil _,by rw[Ox.out.1];rfl⟩ (HA.out.1.below aH) (λy hy=>(HA.out.2.1 y hy).below aH) aH⟩
    clear D bd ay M aH;simp only[putsL,bf7,bf1];simp only[Act.put,bfw,bfu,bfv];go_wp2_with fail;exact bodyPost_ret (v:=.tuple #[.agg #[.int .i64 m,.slice sa n sc],.slice (some ⟨b,0,none⟩) 1 1,.int .i64 0]) ((dG (p:=6) (s:=7) (u:=8) (ty:=72) rfl _ _ I 72 #[.int .i64 m,.slice sa n sc] (0,0) _ rfl HZ.out.1 underlying72 rfl bP).trans rfl) rfl HZ.out.2
  | false=>
   by_cases be:256<E.length
   ·have Oi:Hid (256<(E.map bn.p).length):=by rw[bfz];exact Lh be
    go_upto_region 22 with fail;refine bg4 ?_;refine bV (by kernel_rfl) 72 _ rfl #[.int .i64 0,.slice none 0 0] (by first | exact ja | (simp only[bgb,bge];exact ja) | kernel_rfl) ?_
    refine bg6 rfl _ _ _ rfl I #[.int .i64 0,.slice none 0 0] rfl rfl 72 #[.int .i64 0,bM] HO.out.2.2.2.1.2.2.2 bP rfl (dF rfl) ?_;obtain⟨R,U⟩:=Nm (wr.setRow I #[.int .i64 0,.slice none 0 0]);have HZ:Hid (bZ R I 0 bM/\P (.returned (.tuple #[.agg #[.int .i64 0,.slice none 0 0],.slice none 0 0,.int .i64 30])) R):=by
     have hg:wr.grownBy R (some I):=by rw[U];exact bD _ _ _
     have F:=HO.out.2.2.2.2.2.2.2.1;exact Lh ⟨by rw[U];exact bZ.reset HO.out.2.2.2.1.2.2.2 0 _,Z4.out R _ HE.out rfl rfl Oi.out (F.trans (bQ hg ab.out.2.1 F.size))⟩
    rw[<-U];clear U;go_wp2_with fail;exact bodyPost_ret (v:=.tuple #[.agg #[.int .i64 0,.slice none 0 0],.slice none 0 0,.int .i64 30]) ((dG (p:=6) (s:=7) (u:=8) (ty:=72) rfl _ _ I 72 #[.int .i64 0,.slice none 0 0] (0,0) _ rfl HZ.out.1 underlying72 rfl bP).trans rfl) rfl HZ.out.2
   have Oi:Hid (¬256<(E.map bn.p).length):=by rw[bfz];exact Lh be
   obtain⟨e0,e1⟩:=HO.out.2.2.2.1.2.1.d2;go_upto_region 23 with fail;refine bg4 ?_
   iterate 9 go_step
   refine bV (by kernel_rfl) 72 _ rfl #[.int .i64 m,.slice na E.length nc] (by simp only[bgb,bgc,bge];exact FT m na E.length nc) ?_
   iterate 3 go_step
   refine bg6 rfl _ _ _ rfl I #[.int .i64 m,.slice na E.length nc] rfl rfl 72 #[.int .i64 0,bM] HO.out.2.2.2.1.2.2.2 bP rfl (dF rfl) ?_;obtain⟨R,U⟩:=Nm (wr.setRow I #[.int .i64 m,.slice na E.length nc]);have HZ:Hid (bZ R I m (.slice na E.length nc)/\P (.returned (.tuple #[.agg #[.int .i64 m,.slice na E.length nc],.slice oa ol.length oc,.int .i64 0])) R):=by
    have hg:wr.grownBy R (some I):=by rw[U];exact bD _ _ _
    obtain⟨⟨j1,j2,j3,j4⟩,jw,j5,j6,j7,j8,j9⟩:=HO.out.2.2.2;have aB:=ab.out.1.2.2.2.2;have h5:=j5.1.kept hg (.inr (λe=>by have:=j5.1.lt e;omega))
    have h6:=j6.1.kept hg (.inr (λe=>by have:=j6.1.lt e;omega))
    obtain⟨Zy,b8,b9,ca,Yr⟩:=h6.form;exact Lh ⟨by rw[U];exact bZ.reset j4 m _,XY.out R _ _ E _ HE.out rfl rfl Oi.out h5.ins (λy hy=>⟨(j5.2 y hy).1.1.grown hg (λa n' c e hn=>(j5.2 y hy).1.1.apart e hn j4 (by decide)),(j5.2 y hy).1.2⟩) rfl ⟨Zy,b8,ol,b9,ca,Yr,λy hy=>bC.grown (j6.2 y hy).1 hg (λa n' c e hn=>bC.apart (j6.2 y hy).1 e hn j4 (by decide)),rfl⟩ (j7.trans (bQ hg ab.out.2.1 j7.size))⟩
   rw[<-U];clear U e0 e1;go_wp2_with fail;exact bodyPost_ret (v:=.tuple #[.agg #[.int .i64 m,.slice na E.length nc],.slice oa ol.length oc,.int .i64 0]) ((dG (p:=6) (s:=7) (u:=8) (ty:=72) rfl _ _ I 72 #[.int .i64 m,.slice na E.length nc] (0,0) _ rfl HZ.out.1 underlying72 rfl bP).trans rfl) rfl HZ.out.2
theorem cZ.grown {w w':World} {v:Value} {l:List bn} {row:Option Nat}(h:cZ w v l)(z:w.grownBy w' row)(D:∀b,row=some b->∃r T s,w.heap[b]? =some (.cells r T s)/\T≠131):cZ w' v l:=by
 obtain⟨E,F,e,I,h⟩:=h;refine⟨E,F,e,I,?_⟩;rcases h with h | ⟨c,o,y,a,h⟩
 ·exact .inl h
 by_cases n:l=[]
 ·exact .inr ⟨c,o,y,.inl n,λi x m=>by rw[n]at m;simp at m⟩
 rcases a with a | ⟨d,a⟩
 ·exact absurd a n
 have p:some c≠row:=λe=>by
  obtain⟨r,T,s,q,J⟩:=D c e.symm;rw[a]at q;simp only[bf5,Obj.cells.injEq]at q;exact J q.2.1.symm
 have k:=z.block c (Xf.lt ⟨d,a⟩) p;refine .inr ⟨c,o,y,.inr ⟨d,k.trans a⟩,λi x m j u K=>?_⟩;rw[<-h i x m j u K];unfold World.cell?;simp only[k]
theorem cZ.store {w w':World} {v:Value} {l:List bn} {b n c:Nat} {m:Int} {a:Option Addr}(h:cZ w v l)(d:bZ w b m (.slice a n c))(e:w.grownBy w' (some b)):cZ w' v l:=
 h.grown e (λk j=>by cases j;exact⟨_,_,_,d,by decide⟩)
theorem dZ.store {w w':World} {l:List bH} {b n c:Nat} {m:Int} {a z:Option Addr}(h:dZ w z l)(E:bZ w b m (.slice a n c))(F:w.grownBy w' (some b)):dZ w' z l:=by
 rcases h with h | ⟨r,o,I,h⟩
 ·exact .inl h
 refine .inr ⟨r,o,I,λi x D j u J=>?_⟩;have d:=h i x D j u J;have s:r≠b:=by
  rintro rfl;have k:=h i x D 0 _ rfl;rw[cell_of_row _ _ _ _ _ _ E]at k;have p:=(Array.getElem?_eq_some_iff.1 k).1;have q:o+i*10+0<2:=p
  match ho:o+i*10+0,q,k with
  | 0,_,k=>
   have e:Value.int .i64 m=Value.bool x.o.late:=Option.some.inj k;cases e
  | 1,_,k=>
   have e:Value.slice a n c=Value.bool x.o.late:=Option.some.inj k;cases e
 have p:=block_lt_of_cell d;have y:=F.block r p (by simpa using s)
 rw[<-d];unfold World.cell?;simp only[y]
theorem di.lT {w w':World} {x:bn} {b:Nat} {m:Int} {c:Value}(h:di w x)(d:bZ w b m c)(j:w.grownBy w' (some b)):di w' x:=
 ⟨h.1.grown j (λ_ _ _ e a=>h.1.apart e a d (by decide)),h.2⟩
theorem fM.store {w w':World} {v:Value} {o:List dE} {b n c:Nat} {m:Int} {a:Option Addr}(h:fM w v o)(j:bZ w b m (.slice a n c))(k:w.grownBy w' (some b)):fM w' v o:=by
 obtain⟨r,s,l,u,y,z,p,D⟩:=h;exact⟨r,s,l,u,y,z.store j k,λx q=>bC.grown (p x q) k (λ_ _ _ e d=>bC.apart (p x q) e d j (by decide)),D⟩
theorem dJ.sorted {q:bu} {l:List bn} {n:Nat}(h:dJ q (l.map bn.p) n)(b:n<=1000000):tY l/\(gJ (l.map bn.p)).Pairwise bK:=by
 refine⟨⟨λx a=>(h.2.1 x.p (List.mem_map.2 ⟨x,a,rfl⟩)).2,?_⟩,nP.2 (kE h.1)⟩;have:=h.2.2;rw[bfz]at this;omega
theorem QS(w:World)(q:bu)(m:Int)(pv:Value)(x:ItemL)(l:List bn)(hA:cZ w pv l)(hG:∀y∈l,di w y)(ae:dJ q (l.map bn.p) 256)(hk:x.key.length<=1000000):
  Calls prog 90 #[.agg q.cells,.agg #[.int .i64 m,pv],.agg x.cells] w (nR w (stepS q ⟨m,l.map bn.p⟩ x).1 (stepS q ⟨m,l.map bn.p⟩ x).2.1 (stepS q ⟨m,l.map bn.p⟩ x).2.2):=by
 obtain⟨I,aa⟩:=Nm (l.map bn.p);obtain⟨P,hP⟩:=Nm (nR w (stepS q ⟨m,I⟩ x).1 (stepS q ⟨m,I⟩ x).2.1 (stepS q ⟨m,I⟩ x).2.2);rw[<-aa,<-hP];obtain⟨r,hr⟩:=Nm (x.rightB);have Yk:Hid (r=false->∀b,Bw w b->P (.returned (.tuple #[.agg #[.int .i64 0,.slice none 0 0],.slice none 0 0,.int .i64 2])) b):=Lh (λh b c=>by
  rw[hr]at h;rw[hP,stepS,if_neg (by rw[h];decide)]
  exact⟨_,_,rfl,yN b,fM.nil _,c⟩)
 obtain⟨kd,ab⟩:=Nm (x.kind);have Iz:Hid (r=true->kd=1->∀b sv E,gG b sv (jA q ⟨m,I⟩ x).1->fM b E (jA q ⟨m,I⟩ x).2.1->Bw w b->P (.returned (.tuple #[sv,E,.int .i64 (jA q ⟨m,I⟩ x).2.2])) b):=Lh (λh h1 b sv E hS hO c=>by
  rw[hr]at h;rw[ab]at h1;rw[hP,stepS,if_pos h,if_pos h1];exact⟨_,_,rfl,hS,hO,c⟩)
 have al:Hid (r=true->kd≠1->∀b sv E,gG b sv (jZ q ⟨m,I⟩ x.time).1->fM b E (jZ q ⟨m,I⟩ x.time).2->Bw w b->P (.returned (.tuple #[sv,E,.int .i64 0])) b):=Lh (λh h1 b sv E hS hO c=>by
  rw[hr]at h;rw[ab]at h1;rw[hP,stepS,if_pos h,if_neg h1];exact⟨_,_,rfl,hS,hO,c⟩)
 have ac:Hid (∀j,Calls prog 61 #[.agg x.cells] j (Below0 j (.bool r))):=by
  rw[hr];exact Lh (λj=>eright_any j x hk)
 have Iy:Hid (∀j,Bw w j->Calls prog 135 #[.agg q.cells,.agg #[.int .i64 m,pv],.agg x.cells] j (nR j (jA q ⟨m,I⟩ x).1 (jA q ⟨m,I⟩ x).2.1 (jA q ⟨m,I⟩ x).2.2)):=by
  rw[aa];exact Lh (λj c=>QJ j q m pv x l (hA.below c) (λy hy=>(hG y hy).below c) ae hk)
 have AX:Hid (∀j,Bw w j->Calls prog 136 #[.agg q.cells,.agg #[.int .i64 m,pv],.int .i64 x.time] j (Fv j (jZ q ⟨m,I⟩ x.time).1 (jZ q ⟨m,I⟩ x.time).2)):=by
  rw[aa];obtain⟨h1,h2⟩:=ae.sorted (by decide)
  exact Lh (λj c=>QO j q m x.time pv l (hA.below c) (λy hy=>(hG y hy).below c) h1 h2)
 obtain⟨sa,sc,am,ap,ar⟩:=hA.form;clear ap ar;obtain⟨w1,O⟩:=Nm ((((w.alloc (.cells q.cells 23)).alloc (.cells #[.int .i64 m,pv] 72)).alloc (.cells x.cells 32)).alloc (.cells #[.int .i64 0,.slice none 0 0] 72));obtain⟨qb,XW⟩:=Nm (w.heap.size);obtain⟨sb,af⟩:=Nm (w.heap.size+1);obtain⟨xb,ag⟩:=Nm (w.heap.size+2);obtain⟨o,ah⟩:=Nm (w.heap.size+3);have M:Hid (dB w1 qb q/\bZ w1 sb m pv/\lq w1 xb x/\bZ w1 o 0 bM/\Bw w w1/\w1.heap.size=w.heap.size+4):=by rw[O,XW,af,ag,ah];exact Lh (Hf w q m pv x)
 have ai:Hid (w.heap.size<=o):=Lh (by omega)
 clear hP hr hA hG ae hk aa;obtain⟨S1,an⟩:=Nm (jA q ⟨m,I⟩ x);obtain⟨S2,ao⟩:=Nm (jZ q ⟨m,I⟩ x.time);rw[<-an]at Iz Iy;rw[<-ao]at al AX;clear an ao;obtain⟨Q,hQ⟩:=Nm q;rw[<-hQ]at M;obtain⟨X,hX⟩:=Nm x;rw[<-hX]at M;obtain⟨kind,size,D,K,agg,kq⟩:=q;obtain⟨Za,xk,xt,xv⟩:=x;simp only at ab AX;subst ab;have Yy:Hid (∀j,dB j qb Q->D6 j qb kind size D K agg kq):=by rw[hQ];exact Lh (λj h=>h.d6)
 have iI:Hid (∀j,lq j xb X->DX j xb kd xk xt xv):=by rw[hX];exact Lh (λj h=>h.dx)
 clear hQ hX;obtain⟨n,hn⟩:=Nm (l.length);rw[<-hn]at am;clear hn;subst am;unfold bu.cells ItemL.cells at O Iy ⊢;unfold bu.cells at AX;unfold ItemL.cells at ac;simp only at O ac Iy AX ⊢;have au:(w.alloc (.cells #[.int .i64 kind,.int .i64 size,.int .i64 D,.int .i64 K,.int .i64 agg,.int .i64 kq] 23)).heap.size=w.heap.size+1:=bg w _;have av:((w.alloc (.cells #[.int .i64 kind,.int .i64 size,.int .i64 D,.int .i64 K,.int .i64 agg,.int .i64 kq] 23)).alloc (.cells #[.int .i64 m,.slice sa n sc] 72)).heap.size=w.heap.size+2:=by rw[bg,bg]
 have aw:(((w.alloc (.cells #[.int .i64 kind,.int .i64 size,.int .i64 D,.int .i64 K,.int .i64 agg,.int .i64 kq] 23)).alloc (.cells #[.int .i64 m,.slice sa n sc] 72)).alloc (.cells #[.int .i64 kd,Sv xk,.int .i64 xt,.int .i64 xv] 32)).heap.size=w.heap.size+3:=by rw[bg,bg,bg]
 obtain⟨x0,x1,x2,x3⟩:=iI.out w1 M.out.2.2.1;go_enter func90,ntmps90;go_upto_region 1 with fail;rw[<-O,<-ah,<-ag,<-af,<-XW];clear O ah ag af XW au av aw
 cases r with
 | false=>
  go_wp2_with fail;refine(ac.out w1).mono ?_;rintro e L ⟨rfl,c⟩;have F:Hid (bZ L o 0 bM/\Bw w L):=Lh ⟨M.out.2.2.2.1.below c,M.out.2.2.2.2.1.trans (c.mono M.out.2.2.2.2.1.size)⟩;clear c x0 x1 x2 x3;dsimp only;go_upto_region 2 with fail;refine bg4 ?_;refine bV (by kernel_rfl) 72 _ rfl #[.int .i64 0,.slice none 0 0] (by first | exact ja | (simp only[bgb,bge];exact ja) | kernel_rfl) ?_
  refine bg6 rfl _ _ _ rfl o #[.int .i64 0,.slice none 0 0] rfl rfl 72 #[.int .i64 0,bM] F.out.1 bP rfl (dF rfl) ?_;obtain⟨b,d⟩:=Nm (L.setRow o #[.int .i64 0,.slice none 0 0]);have HZ:Hid (bZ b o 0 bM/\P (.returned (.tuple #[.agg #[.int .i64 0,.slice none 0 0],.slice none 0 0,.int .i64 2])) b):=by
   have R:L.grownBy b (some o):=by rw[d];exact bD _ _ _
   exact Lh ⟨by rw[d];exact bZ.reset F.out.1 0 _,Yk.out (by trivial) b (F.out.2.trans (bQ R ai.out F.out.2.size))⟩
  rw[<-d];clear d;go_wp2_with fail;exact bodyPost_ret (v:=.tuple #[.agg #[.int .i64 0,.slice none 0 0],.slice none 0 0,.int .i64 2]) ((dG (p:=6) (s:=7) (u:=8) (ty:=72) rfl _ _ o 72 #[.int .i64 0,.slice none 0 0] (0,0) _ rfl HZ.out.1 underlying72 rfl bP).trans rfl) rfl HZ.out.2
 | true=>
  go_wp2_with fail;refine(ac.out w1).mono ?_;rintro e L ⟨rfl,c⟩;have F:Hid (dB L qb Q/\bZ L sb m (.slice sa n sc)/\lq L xb X/\bZ L o 0 bM/\Bw w L):=Lh ⟨M.out.1.below c,M.out.2.1.below c,M.out.2.2.1.below c,M.out.2.2.2.1.below c,M.out.2.2.2.2.1.trans (c.mono M.out.2.2.2.2.1.size)⟩;clear c x0 x1 x2 x3;dsimp only;obtain⟨d0,d1,d2,d3,d4,d5⟩:=Yy.out L F.out.1;obtain⟨e0,e1⟩:=F.out.2.1.d2;obtain⟨x0,x1,x2,x3⟩:=iI.out L F.out.2.2.1;by_cases ad:kd=1
  ·subst ad;go_upto_region 4 with fail;refine bg4 ?_
   iterate 9 go_step
   refine wpList_plain rfl λK' S=>?_;go_step;refine(Iy.out L F.out.2.2.2.2).mono ?_;rintro e z ⟨sv,E,rfl,⟨a,N,rfl,U,Y,Z⟩,hO,c⟩;refine S _ _ ?_;clear S d0 d1 d2 d3 d4 d5 e0 e1 x0 x1 x2 x3;obtain⟨k,J⟩:=Nm (S1.1.mark);rw[<-J];have H3:Hid (bZ z o 0 bM/\Bw w z/\cZ z a N/\(∀y∈N,di z y)/\S1.1.panes=N.map bn.p/\fM z E S1.2.1/\k=S1.1.mark):=Lh ⟨F.out.2.2.2.1.below c,F.out.2.2.2.2.trans (c.mono F.out.2.2.2.2.size),U,Y,Z,hO,J⟩;clear c U Y Z hO J
   iterate 9 go_step
   refine bg6 rfl _ _ _ rfl o #[.int .i64 k,a] rfl rfl 72 #[.int .i64 0,bM] H3.out.1 bP rfl (dF H3.out.2.2.1.one) ?_;obtain⟨b,d⟩:=Nm (z.setRow o #[.int .i64 k,a]);have HZ:Hid (bZ b o k a/\P (.returned (.tuple #[.agg #[.int .i64 k,a],E,.int .i64 S1.2.2])) b):=by
    have R:z.grownBy b (some o):=by rw[d];exact bD _ _ _
    obtain⟨j1,j2,j3,j4,j5,j6,j7⟩:=H3.out;exact Lh ⟨by rw[d];exact bZ.reset j1 k _,Iz.out (by trivial) (by trivial) b _ E ⟨a,N,by rw[j7],j3.store j1 R,λy hy=>(j4 y hy).lT j1 R,j5⟩ (j6.store j1 R) (j2.trans (bQ R ai.out j2.size))⟩
   rw[<-d];clear d;go_wp2_with fail;exact bodyPost_ret (v:=.tuple #[.agg #[.int .i64 k,a],E,.int .i64 S1.2.2]) ((dG (p:=6) (s:=7) (u:=8) (ty:=72) rfl _ _ o 72 #[.int .i64 k,a] (0,0) _ rfl HZ.out.1 underlying72 rfl bP).trans rfl) rfl HZ.out.2
  have ax:=Lh ad;have Uy:(kd==1)=false:=by simpa using ad
  go_upto_region 5 with fail;clear ad Uy;refine bg4 ?_
  iterate 12 go_step
  refine wpList_plain rfl λK' S=>?_;go_step;refine(AX.out L F.out.2.2.2.2).mono ?_;rintro e z ⟨sv,E,rfl,⟨a,N,rfl,U,Y,Z⟩,hO,c⟩;refine S _ _ ?_;clear S d0 d1 d2 d3 d4 d5 e0 e1 x0 x1 x2 x3;obtain⟨k,J⟩:=Nm (S2.1.mark);rw[<-J];have H3:Hid (bZ z o 0 bM/\Bw w z/\cZ z a N/\(∀y∈N,di z y)/\S2.1.panes=N.map bn.p/\fM z E S2.2/\k=S2.1.mark):=Lh ⟨F.out.2.2.2.1.below c,F.out.2.2.2.2.trans (c.mono F.out.2.2.2.2.size),U,Y,Z,hO,J⟩;clear c U Y Z hO J
  iterate 12 go_step
  refine bg6 rfl _ _ _ rfl z.heap.size #[.int .i64 k,a] rfl rfl 72 #[.int .i64 0,bM] (bg5 z _) bP rfl (dF H3.out.2.2.1.one) ?_;obtain⟨w4,aj⟩:=Nm ((z.alloc (Obj.cells #[.int .i64 0,.slice none 0 0] 72)).setRow z.heap.size #[.int .i64 k,a]);obtain⟨tb,ak⟩:=Nm (z.heap.size);have H4:Hid (bZ w4 o 0 bM/\Bw w w4/\cZ w4 a N/\(∀y∈N,di w4 y)/\S2.1.panes=N.map bn.p/\fM w4 E S2.2/\k=S2.1.mark/\bZ w4 tb k a):=by
   obtain⟨k1,k2⟩:=qO z k a;have e:w4=(z.alloc (Obj.cells #[.int .i64 0,bM] 72)).setRow z.heap.size #[.int .i64 k,a]:=aj;rw[<-e,<-ak]at k1;rw[<-e]at k2;obtain⟨j1,j2,j3,j4,j5,j6,j7⟩:=H3.out;exact Lh ⟨j1.below k2,Tb j2 k2,j3.below k2,λy hy=>(j4 y hy).below k2,j5,j6.below k2,j7,k1⟩
  rw[<-aj,<-ak];clear aj ak H3;obtain⟨e0,e1⟩:=H4.out.2.2.2.2.2.2.2.d2;go_upto_region 6 with fail;refine bg4 ?_
  iterate 6 go_step
  refine bg6 rfl _ _ _ rfl o #[.int .i64 k,a] rfl rfl 72 #[.int .i64 0,bM] H4.out.1 bP rfl (dF H4.out.2.2.1.one) ?_;obtain⟨b,d⟩:=Nm (w4.setRow o #[.int .i64 k,a]);have HZ:Hid (bZ b o k a/\P (.returned (.tuple #[.agg #[.int .i64 k,a],E,.int .i64 0])) b):=by
   have R:w4.grownBy b (some o):=by rw[d];exact bD _ _ _
   obtain⟨j1,j2,j3,j4,j5,j6,j7,_⟩:=H4.out;exact Lh ⟨by rw[d];exact bZ.reset j1 k _,al.out (by trivial) ax.out b _ E ⟨a,N,by rw[j7],j3.store j1 R,λy hy=>(j4 y hy).lT j1 R,j5⟩ (j6.store j1 R) (j2.trans (bQ R ai.out j2.size))⟩
  rw[<-d];clear d e0 e1;go_wp2_with fail;exact bodyPost_ret (v:=.tuple #[.agg #[.int .i64 k,a],E,.int .i64 0]) ((dG (p:=6) (s:=7) (u:=8) (ty:=72) rfl _ _ o 72 #[.int .i64 k,a] (0,0) _ rfl HZ.out.1 underlying72 rfl bP).trans rfl) rfl HZ.out.2
end Go.Proofs.YtgfmbkoieacgoaaGreatDoor
