/-
  40.
-/
import Derived.Test.YtjeeghafachebaaGreatU34
import Derived.Test.YtjeeghafachebaaGreatU35
import Derived.Test.YtjeeghafachebaaGreatU38
import Derived.Test.YtjeeghafachebaaGreatU39
set_option maxRecDepth 100000
set_option maxHeartbeats 16000000
namespace Go.Proofs.YtjeeghafachebaaGreat
open Go Go.RowKit Go.Proofs.Tryz
def jy(w:World)(b:Nat)(x:bN):Prop:=w.heap[b]? =some (.cells x.cells 42 (0,0))
theorem jy.lt {w:World} {b:Nat} {x:bN}(h:jy w b x):b<w.heap.size:=(Array.getElem?_eq_some_iff.1 h).1
theorem jy.below {w w':World} {b:Nat} {x:bN}(h:jy w b x)(hB:Bw w w'):jy w' b x:=(hB.block b h.lt).trans h
def DX(w:World)(b:Nat)(k:Int)(key:List (BitVec 8))(t v:Int):Prop:=w.cell? ⟨b,0,none⟩=some (.int .i64 k)/\w.cell? ⟨b,1,none⟩=some (Sv key)/\w.cell? ⟨b,2,none⟩=some (.int .i64 t)/\w.cell? ⟨b,3,none⟩=some (.int .i64 v)
theorem jy.dx {w:World} {b:Nat} {x:bN}(h:jy w b x):DX w b x.kind x.key x.time x.value:=by
 refine⟨?_,?_,?_,?_⟩ <;> (rw[cell_of_row _ _ _ _ _ _ h];rfl)
theorem dz {w w':World} {row:Option Nat}(hg:w.grownBy w' row) {b:Nat} {o:Obj}(h:w.heap[b]? =some o)(hne:some b≠row):w'.heap[b]? =some o:=(hg.block b (Array.getElem?_eq_some_iff.1 h).1 hne).trans h
theorem bA.apart {w:World} {tv:Value} {l:List Int} {a:Addr} {n c b:Nat} {cs:Array Value} {T:TypeId} {fr:Nat × Nat}(h:bA w tv l)(e:tv=.slice (some a) n c)(hne:l≠[])(hb:w.heap[b]? =some (.cells cs T fr))(hT:T≠3):a.block≠b:=by
 obtain⟨a',c',e',_,h'⟩:=h;rcases h' with⟨_,h'⟩ | ⟨b',o,ha,ht,_⟩
 ·exact absurd h' hne
 rw[e']at e;cases e
 cases ha
 rcases ht with ht | ⟨cur,ht⟩
 ·exact absurd ht hne
 intro e2;have e3:b'=b:=e2;rw[e3,hb]at ht;simp only[bf5,Obj.cells.injEq]at ht;exact hT ht.2.1
theorem bR.store {w w':World} {x y:bn} {b:Nat}(h:bR w x)(hb:cz w b y)(hg:w.grownBy w' (some b)):bR w' x:=
 ⟨h.1.grown hg (λ_ _ _ e hne=>h.1.apart e hne hb (by decide)),h.2⟩
theorem FE {w:World} {B B':Nat} {v u:Value} {l:List bg} {m:List bn}(h:cK w B v l)(h':bY w B' u m):v.ownBlock=none∨v.ownBlock≠u.ownBlock:=by
 rcases h.2 with⟨k1,_⟩ | ⟨a,c,cur,k1,_,k2,_⟩
 ·exact .inl (by rw[k1];rfl)
 right
 rcases h'.2 with⟨j1,_⟩ | ⟨a',c',cur',j1,_,j2,_⟩
 ·rw[k1,j1];simp[Value.ownBlock]
 rw[k1,j1];intro e;simp only[Value.ownBlock,bf5]at e;rw[e,j2]at k2;simp only[bf5,Obj.cells.injEq]at k2;exact absurd k2.2.1 (by decide)
theorem FD {w:World} {B B':Nat} {v u:Value} {l:List bg} {m:List bM}(h:cK w B v l)(h':fe w B' u m):v.ownBlock=none∨v.ownBlock≠u.ownBlock:=by
 rcases h.2 with⟨k1,_⟩ | ⟨a,c,cur,k1,_,k2,_⟩
 ·exact .inl (by rw[k1];rfl)
 right
 rcases h'.2 with⟨j1,_⟩ | ⟨a',c',cur',j1,_,j2,_⟩
 ·rw[k1,j1];simp[Value.ownBlock]
 rw[k1,j1];intro e;simp only[Value.ownBlock,bf5]at e;rw[e,j2]at k2;simp only[bf5,Obj.cells.injEq]at k2;exact absurd k2.2.1 (by decide)
def vV(w:World)(qb sb xb rb B:Nat)(q:bz)(m:Int)(pv:Value)(x:bN)(wv:Value)(ws:List bg)(nv:Value)(nl:List bn)(ov:Value)(ol:List bM)(wr:World):Prop:=
 (dn wr qb q/\bT wr sb m pv/\jy wr xb x/\bT wr rb 0 bS)/\cK wr B wv ws/\jB wr B nv nl/\kw wr B ov ol/\Bw w wr/\
  (∀z∈ol,∀a n c,z.tv=.slice (some a) n c->z.o.v≠[]->nv.ownBlock≠some a.block)/\∀z∈nl,∀a n c,z.tv=.slice (some a) n c->z.p.a.top≠[]->ov.ownBlock≠some a.block
theorem vV.below {w:World} {qb sb xb rb B:Nat} {q:bz} {m:Int} {pv:Value} {x:bN} {wv:Value} {ws:List bg} {nv:Value} {nl:List bn} {ov:Value} {ol:List bM} {wr wz:World}
  (h:vV w qb sb xb rb B q m pv x wv ws nv nl ov ol wr) (hB:Bw wr wz):vV w qb sb xb rb B q m pv x wv ws nv nl ov ol wz:=by
 obtain⟨⟨h1,h2,h3,h4⟩,h5,h6,h7,h8,h9⟩:=h;exact⟨⟨h1.below hB,h2.below hB,h3.below hB,h4.below hB⟩,h5.far hB,h6.far hB,h7.far hB,Tb h8 hB,h9⟩
theorem vV.off {w:World} {qb sb xb rb B:Nat} {q:bz} {m:Int} {pv:Value} {x:bN} {wv:Value} {ws:List bg} {nv:Value} {nl:List bn} {ov:Value} {ol:List bM} {wr:World}
  (h:vV w qb sb xb rb B q m pv x wv ws nv nl ov ol wr) {k:Nat} (hk:wr.heap.size<=k):wv.ownBlock≠some k/\nv.ownBlock≠some k/\ov.ownBlock≠some k:=
 ⟨λe=>by have:=(cK.lt h.2.1 e).2;omega,λe=>by have:=(h.2.2.1.1.lt e).2;omega,λe=>by have:=(h.2.2.2.1.1.lt e).2;omega⟩
theorem vV.RA {w:World} {qb sb xb rb B:Nat} {q:bz} {m:Int} {pv:Value} {x:bN} {wv:Value} {ws:List bg} {nv:Value} {nl:List bn} {ov:Value} {ol:List bM} {wr w':World}
  (h:vV w qb sb xb rb B q m pv x wv ws nv nl ov ol wr) (hb:w.heap.size<=B/\qb<B/\sb<B/\xb<B/\rb<B) {y:bn} {ZX:Value} {nl':List bn} (hsub:∀z∈nl',z∈nl∨z=y) (hy:bR wr y)
  (hy1:∀a n c,y.tv=.slice (some a) n c->y.p.a.top≠[]->nv.ownBlock≠some a.block/\ov.ownBlock≠some a.block) (ho:bY w' B ZX nl') (hg:wr.grownBy w' nv.ownBlock) (hv:ZX.ownBlock=nv.ownBlock∨ZX.ownBlock=some wr.heap.size):
  vV w qb sb xb rb B q m pv x wv ws ZX nl' ov ol w':=by
 obtain⟨⟨j1,j2,j3,j4⟩,jw,j5,j6,j7,j8,j9⟩:=h;obtain⟨b0,b1,b2,b3,b4⟩:=hb;have hne:∀b,b<B->some b≠nv.ownBlock:=λb hb e=>by have:=j5.1.lt e.symm;omega
 have hgood:∀z∈nl',bR wr z/\∀a n c,z.tv=.slice (some a) n c->z.p.a.top≠[]->nv.ownBlock≠some a.block/\ov.ownBlock≠some a.block:=λz hz=>by
  rcases hsub z hz with hz | rfl
  ·exact⟨(j5.2 z hz).1,λa n c e hn=>⟨(j5.2 z hz).2 a n c e hn,j9 z hz a n c e hn⟩⟩
  exact⟨hy,hy1⟩
 refine⟨⟨dz hg j1 (hne qb b1),dz hg j2 (hne sb b2),dz hg j3 (hne xb b3),dz hg j4 (hne rb b4)⟩,jw.kept hg (FE jw j5.1),⟨ho,λz hz=>⟨⟨bA.qR (hgood z hz).1.1 hg (λa n c e hn=>((hgood z hz).2 a n c e hn).1),(hgood z hz).1.2⟩,λa n c e hn he=>?_⟩⟩,
  j6.keep hg (lQ j5.1 j6.1) (λz hz a n c e hn=>j8 z hz a n c e hn),j7.trans ⟨hg.os,hg.tape,hg.output,hg.size,λk hk=>hg.block k (by have:=j7.size;omega) (hne k (by omega))⟩,λz hz a n c e hn he=>?_,λz hz a n c e hn=>((hgood z hz).2 a n c e hn).2⟩
 ·rcases hv with hv | hv
  ·rw[hv]at he;exact((hgood z hz).2 a n c e hn).1 he
  rw[hv]at he;have:=bA.lt (hgood z hz).1.1 e hn;have he':=Option.some.inj he;omega
 rcases hv with hv | hv
 ·rw[hv]at he;exact j8 z hz a n c e hn he
 rw[hv]at he;have:=bA.lt (j6.2 z hz).1 e hn;have he':=Option.some.inj he;omega
theorem vV.out {w:World} {qb sb xb rb B:Nat} {q:bz} {m:Int} {pv:Value} {x:bN} {wv:Value} {ws:List bg} {nv:Value} {nl:List bn} {ov:Value} {ol:List bM} {wr w':World}
  (h:vV w qb sb xb rb B q m pv x wv ws nv nl ov ol wr) (hb:w.heap.size<=B/\qb<B/\sb<B/\xb<B/\rb<B) {y:bM} {iw:Value} (hy:dO wr y)
  (hy1:∀a n c,y.tv=.slice (some a) n c->y.o.v≠[]->nv.ownBlock≠some a.block/\ov.ownBlock≠some a.block) (ho:fe w' B iw (ol++[y])) (hg:wr.grownBy w' ov.ownBlock) (hv:iw.ownBlock=ov.ownBlock∨iw.ownBlock=some wr.heap.size):
  vV w qb sb xb rb B q m pv x wv ws nv nl iw (ol++[y]) w':=by
 obtain⟨⟨j1,j2,j3,j4⟩,jw,j5,j6,j7,j8,j9⟩:=h;obtain⟨b0,b1,b2,b3,b4⟩:=hb;have hne:∀b,b<B->some b≠ov.ownBlock:=λb hb e=>by have:=j6.1.lt e.symm;omega
 refine⟨⟨dz hg j1 (hne qb b1),dz hg j2 (hne sb b2),dz hg j3 (hne xb b3),dz hg j4 (hne rb b4)⟩,jw.kept hg (FD jw j6.1),j5.keep hg (mU j5.1 j6.1) (λz hz a n c e hn=>j9 z hz a n c e hn),
  j6.push hy (λa n c e hn=>(hy1 a n c e hn).2) ho hg hv,j7.trans ⟨hg.os,hg.tape,hg.output,hg.size,λk hk=>hg.block k (by have:=j7.size;omega) (hne k (by omega))⟩,λz hz a n c e hn=>?_,λz hz a n c e hn he=>?_⟩
 ·rcases List.mem_append.1 hz with hz | hz
  ·exact j8 z hz a n c e hn
  rw[List.mem_singleton.1 hz]at e hn;exact(hy1 a n c e hn).1
 rcases hv with hv | hv
 ·rw[hv]at he;exact j9 z hz a n c e hn he
 rw[hv]at he;have:=bA.lt (j5.2 z hz).1.1 e hn;have he':=Option.some.inj he;omega
theorem vV.set {w:World} {qb sb xb rb B:Nat} {q:bz} {m:Int} {pv:Value} {x:bN} {wv:Value} {ws:List bg} {nv:Value} {nl:List bn} {ov:Value} {ol:List bM} {wr w':World}
  (h:vV w qb sb xb rb B q m pv x wv ws nv nl ov ol wr) (hb:w.heap.size<=B/\qb<B/\sb<B/\xb<B/\rb<B) {k:Nat} {y:bn} (hk:B<=k) (hrow:cz wr k y) (hoff:wv.ownBlock≠some k/\nv.ownBlock≠some k/\ov.ownBlock≠some k) (hg:wr.grownBy w' (some k)):
  vV w qb sb xb rb B q m pv x wv ws nv nl ov ol w':=by
 obtain⟨⟨j1,j2,j3,j4⟩,jw,j5,j6,j7,j8,j9⟩:=h;obtain⟨b0,b1,b2,b3,b4⟩:=hb;refine⟨⟨dz hg j1 (by simp;omega),dz hg j2 (by simp;omega),dz hg j3 (by simp;omega),dz hg j4 (by simp;omega)⟩,jw.kept hg (.inr hoff.1),j5.keep hg (.inr hoff.2.1) (λz hz a n c e hn he=>?_),j6.keep hg (.inr hoff.2.2) (λz hz a n c e hn he=>?_),j7.trans (bG hg (by omega) j7.size),j8,j9⟩
 ·exact bA.apart (j5.2 z hz).1.1 e hn hrow (by decide) (Option.some.inj he).symm
 exact bA.apart (j6.2 z hz).1 e hn hrow (by decide) (Option.some.inj he).symm
def RU(B:Nat)(tv:Value):Prop:=∀a n c,tv=.slice (some a) n c->B<=a.block
def DD(B:Nat)(gp:bH)(w:World)(Y:bn):Prop:=Y.p=gp/\bR w Y/\RU B Y.tv
theorem DD.below {B:Nat} {gp:bH} {w w':World} {Y:bn}(h:DD B gp w Y)(hB:Bw w w'):DD B gp w' Y:=⟨h.1,h.2.1.below hB,h.2.2⟩
theorem DD.store {B:Nat} {gp:bH} {w w':World} {Y X:bn} {b:Nat}(h:DD B gp w Y)(hb:cz w b X)(hg:w.grownBy w' (some b)):DD B gp w' Y:=⟨h.1,h.2.1.store hb hg,h.2.2⟩
def QB(B:Nat)(gp:bH)(er:Int):List (Nat × (Nat->World->Value->Prop)):=
 [(8,λ_ w v=>∃Y:bn,v=.tuple #[.agg Y.cells,.int .i64 er]/\DD B gp w Y),(9,λ_ w v=>∃Y:bn,v=.tuple #[.agg Y.cells,.int .i64 er]/\DD B gp w Y),(10,λ_ w v=>∃Y:bn,v=.agg Y.cells/\DD B gp w Y),
  (12,λk w v=>∃b,v=.pointer (some ⟨b,0,none⟩)/\B<=b/\if k<=1 then cz w b cO else ∃Y:bn,cz w b Y/\DD B gp w Y)]
theorem QC {B:Nat} {gp:bH} {er:Int}:∀p∈QB B gp er,∀k w w' v,Bw w w'->p.2 k w v->p.2 k w' v:=by
 intro p hp k w w' v hB h;simp only[QB,bf2,bf9,or_false]at hp;rcases hp with rfl | rfl | rfl | rfl
 ·obtain⟨Y,h1,h2⟩:=h;exact⟨Y,h1,h2.below hB⟩
 ·obtain⟨Y,h1,h2⟩:=h;exact⟨Y,h1,h2.below hB⟩
 ·obtain⟨Y,h1,h2⟩:=h;exact⟨Y,h1,h2.below hB⟩
 obtain⟨b,h1,h2,h3⟩:=h;refine⟨b,h1,h2,?_⟩
 split at h3
 ·rename_i hk;rw[if_pos hk];exact h3.below hB
 rename_i hk;rw[if_neg hk];obtain⟨Y,h4,h5⟩:=h3;exact⟨Y,h4.below hB,h5.below hB⟩
theorem Lb {B:Nat} {gp:bH} {er:Int} {w w':World} {l:List Oper} {a:Act}(hB:Bw w w'):∀p∈QB B gp er,12=p.1∨∀d,dQ l p.1=some d->p.2 0 w (a.eval (.tmp d))->p.2 1 w' (a.eval (.tmp d)):=by
 intro p hp;simp only[QB,bf2,bf9,or_false]at hp;rcases hp with rfl | rfl | rfl | rfl
 ·exact .inr λd _ ⟨Y,h1,h2⟩=>⟨Y,h1,h2.below hB⟩
 ·exact .inr λd _ ⟨Y,h1,h2⟩=>⟨Y,h1,h2.below hB⟩
 ·exact .inr λd _ ⟨Y,h1,h2⟩=>⟨Y,h1,h2.below hB⟩
 exact .inl rfl
theorem M8 {B:Nat} {gp:bH} {er:Int} {w w':World} {b:Nat} {Y:bn} {l:List Oper} {a:Act}(hl:dQ l 12=some 17)(ha:a.eval (.tmp 17)=.pointer (some ⟨b,0,none⟩))(hb:cz w b cO)(hBb:B<=b)(hg:w.grownBy w' (some b))(hr:cz w' b Y)(hY:DD B gp w' Y):
  ∀p∈QB B gp er,13=p.1∨∀d,dQ l p.1=some d->p.2 1 w (a.eval (.tmp d))->p.2 2 w' (a.eval (.tmp d)):=by
 intro p hp;simp only[QB,bf2,bf9,or_false]at hp;rcases hp with rfl | rfl | rfl | rfl
 ·exact .inr λd _ ⟨Y,h1,h2⟩=>⟨Y,h1,h2.store hb hg⟩
 ·exact .inr λd _ ⟨Y,h1,h2⟩=>⟨Y,h1,h2.store hb hg⟩
 ·exact .inr λd _ ⟨Y,h1,h2⟩=>⟨Y,h1,h2.store hb hg⟩
 refine .inr λd hd _=>?_;rw[hl]at hd;cases hd
 exact⟨b,ha,hBb,Y,hr,hY⟩
theorem rY(w:World)(q:bz)(m:Int)(pv:Value)(x:bN):
  let W:=(((w.alloc (.cells q.cells 23)).alloc (.cells #[.int .i64 m,pv] 29)).alloc (.cells x.cells 42)).alloc (.cells #[.int .i64 0,bS] 29)
  dn W w.heap.size q/\bT W (w.heap.size+1) m pv/\jy W (w.heap.size+2) x/\bT W (w.heap.size+3) 0 bS/\Bw w W/\W.heap.size=w.heap.size+4:=by
 intro W;obtain⟨k1,k2,k3⟩:=D7 w q m pv;obtain⟨w2,hw2⟩:=Nm ((w.alloc (.cells q.cells 23)).alloc (.cells #[.int .i64 m,pv] 29));have hs:w2.heap.size=w.heap.size+2:=by rw[hw2,bq,bq]
 have hW:W=(w2.alloc (.cells x.cells 42)).alloc (.cells #[.int .i64 0,bS] 29):=by rw[hw2]
 rw[<-hw2]at k1 k2 k3;have k4:=(Below.refl _ w2).alloc (bfx _) (.cells x.cells 42);have k5:=(Below.refl _ (w2.alloc (.cells x.cells 42))).alloc (bfx _) (.cells #[.int .i64 0,bS] 29);have hs3:(w2.alloc (.cells x.cells 42)).heap.size=w.heap.size+3:=by rw[bq,hs]
 have Ue:=Tb k4 k5;rw[hW];refine⟨k1.below Ue,k2.below Ue,?_,?_,Tb k3 Ue,by rw[bq,hs3]⟩
 ·refine jy.below ?_ k5;rw[<-hs];exact bg5 _ _
 rw[<-hs3];exact bg5 _ _
def jf(w:World)(s:di)(o:List dB)(er:Int)(e:Ending)(w':World):Prop:=∃sv ov,e=.returned (.tuple #[sv,ov,.int .i64 er])/\gW w' sv s/\fw w' ov o/\Bw w w'
def Ra(w:World)(qb sb xb rb B:Nat)(q:bz)(m:Int)(pv:Value)(x:bN)(wv:Value)(ws:List bg)(c0:kg)(n0:Nat)(s9 s10 s11 Ec:Value)(wr:World):Prop:=
 ∃i:Nat,i<=ws.length/\Ec=.int .i64 (i:Int)/\∃nl ol,∃lt:Bool,s10=.bool lt/\ol.length<=i/\dC q m x.value ws c0=dC q m x.value (ws.drop i) ⟨nl.map bn.p,ol.map bM.o,lt,0⟩/\dL q (nl.map bn.p) (n0+i)/\vV w qb sb xb rb B q m pv x wv ws s9 nl s11 ol wr
theorem yj(w:World):gW w (.agg #[.int .i64 0,.slice none 0 0]) xE:=⟨bS,[],rfl,bO.nil _,by simp,rfl⟩
theorem cK.at {w:World} {B n c:Nat} {a:Option Addr} {l:List bg}(h:cK w B (.slice a n c) l):dF w a l:=by
 obtain⟨a',c',e,_,h⟩:=h.form;injection e with e1
 rw[e1];exact h
theorem bY.at {w:World} {B n c:Nat} {a:Option Addr} {l:List bn}(h:bY w B (.slice a n c) l):dI w a l:=by
 obtain⟨a',c',e,_,h⟩:=h.form;injection e with e1
 rw[e1];exact h
theorem nH(w:World)(r:Option Nat):w.grownBy w r:=⟨rfl,rfl,rfl,bfx _,λ_ _ _=>rfl⟩
theorem yK {w w':World}(r:Nat)(hB:Bw w w'):w.grownBy w' (some r):=⟨hB.os,hB.tape,hB.output,hB.size,λk hk _=>hB.block k hk⟩
theorem Kn {w:World} {B n c:Nat} {a:Option Addr} {l:List bn} {i j:Nat}(h:bY w B (.slice a n c) l)(hij:i<=j)(hj:j<=l.length):
  ∃a5 c5,(∀w',(Instr.slice 27 (.slice a n c) (some (.int .i64 (i:Int))) (some (.int .i64 (j:Int))) none).run prog w'=.ok (.slice a5 (j-i) c5) w')/\dI w a5 ((l.take j).drop i):=by
 have hAt:=h.at;rcases h.shape with⟨e,rfl⟩ | ⟨g,c',e,hc⟩
 ·unfold bS at e;injection e with e1 e2 e3
  subst e1 e2 e3;obtain rfl:j=0:=by simpa using hj
  obtain rfl:i=0:=by omega
  refine⟨none,0,λw'=>?_,.inl rfl⟩;simp[Instr.slice,run_underlying underlying27,Instr.sliceBounds,run_sliceBound,show ∀w,(sizeOf 55).run prog w=.ok 8 w from sizeOf55]
 injection e with e1 e2 e3
 subst e1 e2 e3;refine⟨_,_,λw'=>rA w' g l.length c i j hij hj hc,?_⟩;by_cases hci:c=i
 ·refine .inl ?_;rw[List.drop_eq_nil_of_le];rw[bga];omega
 rw[if_neg hci];have h2:=(hAt.take j).cut i;rw[bgu]at h2;exact h2
theorem LC {q:bz} {mark v:Int} {ws:List bg} {c0:kg} {i n:Nat} {W:bg} {ps A B:List bH} {os:List dB} {lt:Bool}(hw:dC q mark v ws c0=dC q mark v (ws.drop i) ⟨ps,os,lt,0⟩)(hW:ws[i]? =some W)(hok:dL q ps n)
  (iY:W.bB=true/\W.key.length<=1000000) (hr:gK q ps W=A++B) (hA:∀a∈A,bJ a.w (dN q ps W)) (hB:∀x∈B,bJ (dN q ps W) x.w) (hg:gy q (dN q ps W) mark=false)
  {gp:bH} {er:Int} (ZQ:gp=(dJ q (dN q ps W) (dX q ps W) v).1) (her:er=(dJ q (dN q ps W) (dX q ps W) v).2):
  (er≠0->dC q mark v ws c0=⟨[],[],false,er⟩)/\(er=0->1073741824<(fC gp mark).r->dC q mark v ws c0=⟨[],[],false,20⟩)/\
   (er=0->¬1073741824<(fC gp mark).r->dL q (A++fC gp mark::B) (n+1)/\dC q mark v ws c0=dC q mark v (ws.drop (i+1)) ⟨A++fC gp mark::B,os++(if ji (dN q ps W) mark=true then [kS q (fC gp mark)]else []),false,0⟩)/\
   (er=0->(0<=gp.r/\gp.r<=1073741824)/\gp.a.top.length<=1000000/\gp.w=dN q ps W):=by
 subst ZQ her;refine⟨λhe=>?_,λhe ho=>?_,λhe ho=>?_,λhe=>?_⟩
 ·have h:kW q mark v ⟨ps,os,lt,0⟩ W=⟨[],[],false,(dJ q (dN q ps W) (dX q ps W) v).2⟩:=by
   unfold kW;rw[if_neg (by show ¬gy q (dN q ps W) mark=true;rw[hg];decide),if_pos he]
  rw[l5 hw hW,h,if_neg he]
 ·have h:kW q mark v ⟨ps,os,lt,0⟩ W=⟨[],[],false,20⟩:=by
   unfold kW;rw[if_neg (by show ¬gy q (dN q ps W) mark=true;rw[hg];decide),if_neg (λh=>h he),if_pos ho]
  rw[l5 hw hW,h,if_neg (by decide)]
 ·obtain⟨k1,k2⟩:=hok.ins iY.1 iY.2 hr hA hB he ho;refine⟨k1,?_⟩;have h:kW q mark v ⟨ps,os,lt,0⟩ W=⟨A++fC (dJ q (dN q ps W) (dX q ps W) v).1 mark::B,os++(if ji (dN q ps W) mark=true then [kS q (fC (dJ q (dN q ps W) (dX q ps W) v).1 mark)]else []),false,0⟩:=by
   unfold kW;rw[if_neg (by show ¬gy q (dN q ps W) mark=true;rw[hg];decide),if_neg (λh=>h he),if_neg ho]
   show kg.mk (jR (gK q ps W) _) _ _ _=_;rw[k2]
  rw[l5 hw hW,h,if_pos rfl]
 obtain⟨k1,k2,k3⟩:=tK he (λo ho=>((hok.2.1 o (List.mem_filter.1 ho).1).1));have:=fM k3;exact⟨k2,by omega,k1⟩
theorem Jn(a b c:Int)(k:List (BitVec 8)):prog.built 50 [(0,.bool true),(1,.agg #[.int .i64 a,Sv k,.int .i64 b,.int .i64 c])]=some #[.bool true,.int .i64 a,Sv k,.int .i64 b,.int .i64 c,.string ⟨#[]⟩,.int .i64 0,.int .i64 0,.int .i64 0,.slice none 0 0]:=by kernel_rfl
theorem Fb(m:Int)(a:Option Addr)(n c:Nat):prog.built 29 [(0,.int .i64 m),(1,.slice a n c)]=some #[.int .i64 m,.slice a n c]:=by kernel_rfl
def Rh(B0:Nat)(O:bM):List (Nat × (Nat->World->Value->Prop)):=
 [(3,λ_ w v=>∃b,v=.slice (some ⟨b,0,none⟩) 1 1/\B0<=b/\jN w b O),(5,λ_ w v=>∃b,v=.slice (some ⟨b,0,none⟩) 1 1/\B0<=b/\jN w b O)]
theorem sN {B0 rb b:Nat} {O:bM} {w w':World} {v:Value}(hr:rb<B0)(hg:w.grownBy w' (some rb))(h:v=.slice (some ⟨b,0,none⟩) 1 1/\B0<=b/\jN w b O):∃b,v=.slice (some ⟨b,0,none⟩) 1 1/\B0<=b/\jN w' b O:=
 ⟨b,h.1,h.2.1,dz hg h.2.2 (by have:=h.2.1;simp;omega)⟩
theorem QG {B0 rb:Nat} {O:bM}(hr:rb<B0):∀p∈Rh B0 O,∀k w w' v,w.grownBy w' (some rb)->p.2 k w v->p.2 k w' v:=by
 intro p hp k w w' v hg h;simp only[Rh,bf2,bf9,or_false]at hp;rcases hp with rfl | rfl
 ·obtain⟨b,h⟩:=h;exact sN hr hg h
 obtain⟨b,h⟩:=h;exact sN hr hg h
theorem Nk {B0 rb:Nat} {O:bM} {w w':World} {l:List Oper} {a:Act}(hr:rb<B0)(hg:w.grownBy w' (some rb)):∀p∈Rh B0 O,4=p.1∨∀d,dQ l p.1=some d->p.2 0 w (a.eval (.tmp d))->p.2 1 w' (a.eval (.tmp d)):=by
 intro p hp;simp only[Rh,bf2,bf9,or_false]at hp;rcases hp with rfl | rfl
 ·exact .inr λd _ ⟨b,h⟩=>sN hr hg h
 exact .inr λd _ ⟨b,h⟩=>sN hr hg h
theorem jC:prog.built 29 []=some #[.int .i64 0,.slice none 0 0]:=by kernel_rfl
theorem Me(w:World)(q:bz)(m:Int)(pv:Value)(x:bN)(l:List bn)(hA:bO w pv l)(hG:∀y∈l,bR w y)(hok:dL q (l.map bn.p) 256)(hk:x.key.length<=1000000):
  Calls prog 38 #[.agg q.cells,.agg #[.int .i64 m,pv],.agg x.cells] w (jf w (gQ q ⟨m,l.map bn.p⟩ x).1 (gQ q ⟨m,l.map bn.p⟩ x).2.1 (gQ q ⟨m,l.map bn.p⟩ x).2.2):=by
 have mixed:prog.follows .mixedOrders=true:=by kernel_rfl
 obtain⟨ps,hps⟩:=Nm (l.map bn.p);rw[<-hps]at hok ⊢;obtain⟨ws,hws⟩:=Nm (lM q x.key x.time);obtain⟨c0,hc0⟩:=Nm (⟨ps,[],true,0⟩:kg);obtain⟨P,hP⟩:=Nm (jf w (gQ q ⟨m,ps⟩ x).1 (gQ q ⟨m,ps⟩ x).2.1 (gQ q ⟨m,ps⟩ x).2.2);rw[<-hP];have hcq:gQ q ⟨m,ps⟩ x=if (dC q m x.value ws c0).e≠0 then (xE,[],(dC q m x.value ws c0).e)else if (dC q m x.value ws c0).late=true then (⟨m,ps⟩,[sj x],0)else if 256<(dC q m x.value ws c0).panes.length then (xE,[],30)else (⟨m,(dC q m x.value ws c0).panes⟩,(dC q m x.value ws c0).outs,0):=by rw[hws,hc0];rfl
 obtain⟨v_,hv_⟩:=Nm (x.value);rw[<-hv_]at hcq;have TM:Hid (∀wz c,dC q m v_ ws c0=c->c.e≠0->Bw w wz->P (.returned (.tuple #[.agg #[.int .i64 0,.slice none 0 0],.slice none 0 0,.int .i64 c.e])) wz):=Lh (λwz c h he hB=>by
  rw[hP,hcq,h,if_pos he];exact⟨_,_,rfl,yj wz,fw.nil _,hB⟩)
 have Vf:Hid (∀wz c ov,dC q m v_ ws c0=c->c.e=0->c.late=true->fw wz ov [sj x]->bO wz pv l->(∀y∈l,bR wz y)->Bw w wz->P (.returned (.tuple #[.agg #[.int .i64 m,pv],ov,.int .i64 0])) wz):=Lh (λwz c ov h he hl h1 h2 h3 hB=>by
  rw[hP,hcq,h,if_neg (by simp[he]),if_pos hl]
  exact⟨_,_,rfl,⟨pv,l,rfl,h2,h3,hps⟩,h1,hB⟩)
 have VG:Hid (∀wz c,dC q m v_ ws c0=c->c.e=0->c.late=false->256<c.panes.length->Bw w wz->P (.returned (.tuple #[.agg #[.int .i64 0,.slice none 0 0],.slice none 0 0,.int .i64 30])) wz):=Lh (λwz c h he hl hn hB=>by
  rw[hP,hcq,h,if_neg (by simp[he]),if_neg (by simp[hl]),if_pos hn]
  exact⟨_,_,rfl,yj wz,fw.nil _,hB⟩)
 have Sl:Hid (∀wz c nv nl ov,dC q m v_ ws c0=c->c.e=0->c.late=false->¬256<c.panes.length->bO wz nv nl->(∀y∈nl,bR wz y)->c.panes=nl.map bn.p->fw wz ov c.outs->Bw w wz->P (.returned (.tuple #[.agg #[.int .i64 m,nv],ov,.int .i64 0])) wz):=Lh (λwz c nv nl ov h he hl hn h1 h2 h3 h4 hB=>by
  rw[hP,hcq,h,if_neg (by simp[he]),if_neg (by simp[hl]),if_neg hn]
  exact⟨_,_,rfl,⟨nv,nl,rfl,h1,h2,h3⟩,h4,hB⟩)
 obtain⟨sa,sc,hpv,hz1,hz2⟩:=hA.form;clear hz1 hz2;obtain⟨w1,hw1⟩:=Nm ((((w.alloc (.cells q.cells 23)).alloc (.cells #[.int .i64 m,pv] 29)).alloc (.cells x.cells 42)).alloc (.cells #[.int .i64 0,.slice none 0 0] 29));obtain⟨qb,Sm⟩:=Nm (w.heap.size);obtain⟨sb,hsb⟩:=Nm (w.heap.size+1);obtain⟨xb,hxb⟩:=Nm (w.heap.size+2);obtain⟨rb,hrb⟩:=Nm (w.heap.size+3);have H1:Hid (dn w1 qb q/\bT w1 sb m pv/\jy w1 xb x/\bT w1 rb 0 bS/\Bw w w1/\w1.heap.size=w.heap.size+4):=by rw[hw1,Sm,hsb,hxb,hrb];exact Lh (rY w q m pv x)
 obtain⟨B,uN⟩:=Nm (w1.heap.size);have ZG:Hid (sb≠rb/\xb≠rb):=Lh ⟨by omega,by omega⟩
 have SA:Hid ((w.heap.size<=B/\qb<B/\sb<B/\xb<B/\rb<B)/\w.heap.size<=rb/\w1.heap.size=B):=Lh ⟨by have:=H1.out.2.2.2.2.2;omega,by omega,uN.symm⟩
 have HA:Hid (bO w pv l/\(∀y∈l,bR w y)/\dL q ps 256/\ps=l.map bn.p/\c0=⟨ps,[],true,0⟩):=Lh ⟨hA,hG,hok,hps,hc0⟩;have Vg:Hid (∀y∈l,∀a n c,y.tv=.slice (some a) n c->y.p.a.top≠[]->a.block<w.heap.size):=Lh (λy hy a n c e hne=>bA.lt (hG y hy).1 e hne);have hn8:l.length<=256:=by have:=hok.2.2;rw[hps,bfz]at this;exact this
 have ZJ:Hid (ws.length<=16/\∀W∈ws,W.bB=true/\W.key.length<=1000000):=Lh ⟨by rw[hws];exact wS _ _ _,λW hW=>by
  rw[hws]at hW;obtain⟨_,h1,_,_,_,h2⟩:=qx hW;exact⟨h1,by rw[h2];exact hk⟩⟩
 have WM:Hid (Calls prog 36 #[pv] w1 (λe w'=>∃v',e=.returned v'/\bY w' w1.heap.size v' l/\Bw w1 w')):=Lh (yD w1 pv l (hA.below H1.out.2.2.2.2.1) (by omega))
 obtain⟨VQ,SS⟩:=Nm (Value.agg q.cells);have Xj:Hid (∀w',Calls prog 62 #[VQ,Sv x.key,.int .i64 x.time] w' (jU w' ws)):=by
  rw[SS,hws];exact Lh (λw'=>Qa w' q x.key x.time hk)
 have IB:Hid (∀w' a c (nl:List bn) (W:bg),dI w' a nl->dL q (nl.map bn.p) 272->W.bB=true/\W.key.length<=1000000->Calls prog 63 #[VQ,.slice a nl.length c,.agg W.cells] w' (zo w' q nl W)):=by
  rw[SS];exact Lh (λw' a c nl W h1 h2 h3=>Mg w' q a c nl W h1 (λy hy=>(h2.2.1 y.p (List.mem_map.2 ⟨y,hy,rfl⟩)).2.1) h2.1 h3.1 h3.2 (by have:=h2.2.2;rw[bfz]at this;omega))
 have V7:Hid (∀w' (W:bg),W.key.length<=1000000->Calls prog 50 #[VQ,.agg W.cells,.int .i64 m] w' (bE w' (.bool (gy q W m)))):=by
  rw[SS];exact Lh (λw' W h=>x8 w' q W m h)
 have uo:Hid (∀w' (W:bg),W.key.length<=1000000->Calls prog 51 #[.agg W.cells,.int .i64 m] w' (bE w' (.bool (ji W m)))):=Lh (λw' W h=>x9 w' W m h);have aG:Hid (∀w' (W:bg) a c (G:List bn),dI w' a G->(∀y∈G,bR w' y)->qG G->Calls prog 64 #[VQ,.agg W.cells,.slice a G.length c,.int .i64 v_] w' (rR w' (dJ q W (G.map bn.p) v_).1 (dJ q W (G.map bn.p) v_).2)):=by
  rw[SS];exact Lh (λw' W a c G h1 h2 h3=>JW w' q W a c G v_ h1 h2 h3)
 have iR:Hid (∀w' (y:bn),bR w' y->y.p.a.top.length<=1000000->Calls prog 65 #[VQ,.agg y.cells] w' (xI w' (kS q y.p))):=by
  rw[SS];exact Lh (λw' y h hn=>Dl w' q y h hn)
 obtain⟨N,hN⟩:=Nm (ws.length);have HN:Hid (N=ws.length/\N<=16):=Lh ⟨hN,by rw[hN];exact ZJ.out.1⟩
 clear hP hcq hA hG hok hk hps hws hc0 hN;obtain⟨Q,hQ⟩:=Nm q;rw[<-hQ]at H1 TM Vf VG Sl HA IB V7 aG iR;obtain⟨X,hX⟩:=Nm x;rw[<-hX]at H1 Vf Xj;obtain⟨kind,size,slide,late,agg,kq⟩:=q;obtain⟨TB,xk,xt,xv⟩:=x;simp only at hv_;subst hv_;have Y7:Hid (X.value=v_/\X=⟨TB,xk,xt,v_⟩/\X.key=xk/\X.time=xt):=by rw[hX];exact Lh ⟨rfl,rfl,rfl,rfl⟩
 have VF:Hid (VQ=.agg #[.int .i64 kind,.int .i64 size,.int .i64 slide,.int .i64 late,.int .i64 agg,.int .i64 kq]):=Lh SS;have SV:Hid (∀w',dn w' qb Q->D6 w' qb kind size slide late agg kq):=by rw[hQ];exact Lh (λw' h=>h.d6)
 have Vu:Hid (∀w',jy w' xb X->DX w' xb TB xk xt v_):=by rw[hX];exact Lh (λw' h=>h.dx)
 rw[Y7.out.2.2.1,Y7.out.2.2.2,VF.out]at Xj;rw[<-Y7.out.1]at TM Vf VG Sl;rw[VF.out]at IB V7 aG iR;have Iw:Hid (∀w' (W:bg) a c (G:List bn),dI w' a G->(∀y∈G,bR w' y)->qG G->Calls prog 64 #[.agg #[.int .i64 kind,.int .i64 size,.int .i64 slide,.int .i64 late,.int .i64 agg,.int .i64 kq],.agg W.cells,.slice a G.length c,.int .i64 v_] w' (rR w' (dJ Q W (G.map bn.p) X.value).1 (dJ Q W (G.map bn.p) X.value).2)):=by
  rw[Y7.out.1];exact aG
 clear aG;clear SS hQ hX uN;obtain⟨n,hn⟩:=Nm (l.length);rw[<-hn]at hpv;have HNn:=Lh hn;clear hn;subst hpv;unfold bz.cells bN.cells at hw1 ⊢;simp only at hw1;have hs1:(w.alloc (.cells #[.int .i64 kind,.int .i64 size,.int .i64 slide,.int .i64 late,.int .i64 agg,.int .i64 kq] 23)).heap.size=w.heap.size+1:=bq w _;have hs2:((w.alloc (.cells #[.int .i64 kind,.int .i64 size,.int .i64 slide,.int .i64 late,.int .i64 agg,.int .i64 kq] 23)).alloc (.cells #[.int .i64 m,.slice sa n sc] 29)).heap.size=w.heap.size+2:=by rw[bq,bq]
 have hs3:(((w.alloc (.cells #[.int .i64 kind,.int .i64 size,.int .i64 slide,.int .i64 late,.int .i64 agg,.int .i64 kq] 23)).alloc (.cells #[.int .i64 m,.slice sa n sc] 29)).alloc (.cells #[.int .i64 TB,Sv xk,.int .i64 xt,.int .i64 v_] 42)).heap.size=w.heap.size+3:=by rw[bq,bq,bq]
 obtain⟨e0,e1⟩:=H1.out.2.1.d2;go_enter func38,ntmps38;go_upto_region 1 with(fail);rw[<-hw1,<-hrb,<-hxb,<-hsb,<-Sm];clear hw1 hrb hxb hsb Sm hs1 hs2 hs3;go_wp2_with(fail);refine WM.out.mono ?_;rintro e w2 ⟨nv0,rfl,hO,hB⟩;have H2:Hid (bY w2 B nv0 l/\Bw w w2/\dn w2 qb Q/\bT w2 sb m (.slice sa n sc)/\jy w2 xb X/\bT w2 rb 0 bS/\B<=w2.heap.size):=by
  have hsz:=hB.size;rw[SA.out.2.2]at hO hsz;exact Lh ⟨hO,H1.out.2.2.2.2.1.trans (hB.mono H1.out.2.2.2.2.1.size),H1.out.1.below hB,H1.out.2.1.below hB,H1.out.2.2.1.below hB,H1.out.2.2.2.1.below hB,hsz⟩
 clear hB hO e0 e1;dsimp only;obtain⟨na0,nc0,rfl,hz1,hz2⟩:=H2.out.1.form;clear hz1 hz2;obtain⟨d0,d1,d2,d3,d4,d5⟩:=SV.out w2 H2.out.2.2.1;obtain⟨x0,x1,x2,x3⟩:=Vu.out w2 H2.out.2.2.2.2.1;go_wp2_with(fail);rename_i K hK;refine(Xj.out w2).mono ?_;rintro e w3 ⟨wv,rfl,hO,hB⟩;have Ve:Hid (vV w qb sb xb rb B Q m (.slice sa n sc) X wv ws (.slice na0 l.length nc0) l bS [] w3):=by
  obtain⟨j1,j2,j3,j4,j5,j6,j7⟩:=H2.out;obtain⟨⟨b0,_⟩,_⟩:=SA.out;exact Lh ⟨⟨j3.below hB,j4.below hB,j5.below hB,j6.below hB⟩,hO.mono j7,⟨j1.far hB,λz hz=>⟨(HA.out.2.1 z hz).below (Tb j2 hB),λa n' c e hn he=>by have h1:=Vg.out z hz a n' c e hn;have h2:=j1.lt he;omega⟩⟩,⟨fe.nil _ _,λz hz=>by simp at hz⟩,Tb j2 hB,λz hz=>by simp at hz,λz hz a n' c e hn he=>by simp[bS,Value.ownBlock]at he⟩
 obtain⟨wa,wc,rfl,hz1,hz2⟩:=hO.form;clear hz1 hz2;rw[<-HN.out.1]at Ve;rw[<-HN.out.1];clear hB hO d0 d1 d2 d3 d4 d5 x0 x1 x2 x3;dsimp only;go_wp2_with(fail);go_loopw[9,10,11,29] (Ra w qb sb xb rb B Q m (.slice sa n sc) X (.slice wa N wc) ws c0 256) (λ_ _ _ i _=>N-(intOf i).toNat)
 case atStart=>
  refine⟨0,bgi _,rfl,l,[],true,rfl,bfx _,?_,?_,Ve.out⟩
  ·rw[List.drop_zero,HA.out.2.2.2.2,HA.out.2.2.2.1];rfl
  rw[<-HA.out.2.2.2.1];exact HA.out.2.2.1
 case round=>
  obtain⟨i,hi,rfl,nl,ol,lt,rfl,hol,hwq,hok,hI⟩:=hrel;rw[<-HN.out.1]at hi;have HO:=Lh (bfy hol (bfy hwq (bfy hok hI)));obtain⟨na,nc,rfl,hz1,hz2⟩:=hI.2.2.1.1.form;obtain⟨oa,oc,rfl,hz3,Az⟩:=hI.2.2.2.1.1.form;clear hz1 hz2 hz3 Az hol hwq hok hI;by_cases hlt:i<N
  ·have OB:N<=16:=HN.out.2;have hi0:(0:Int)<=(i:Int)/\(i:Int)<(N:Int):=by omega
   obtain⟨W,pa,Tu,hx,hsa,c0',c1,c2⟩:=(cK.at HO.out.2.2.2.2.1).get (t:=i) (by rw[<-HN.out.1];exact hlt)
   subst hsa;have HX:Hid (W∈ws/\ws[i]? =some W/\i<N):=Lh ⟨bf3 hx,hx,hlt⟩;clear hx hi hlt;obtain⟨W_,XP⟩:=Nm (W:bg);rw[<-XP]at HX;obtain⟨wk,wl,wh⟩:=W;simp only at c0' c1 c2;go_upto_region 5 with(fail);refine bg4 ?_
   iterate 9 go_step
   refine bg6 rfl _ _ _ rfl wr.heap.size (bg.mk wk wl wh).cells rfl rfl 47 bX.cells (bg5 wr _) dh rfl (dH _) ?_;obtain⟨wx,hwx⟩:=Nm ((wr.alloc (Obj.cells #[.string ⟨#[]⟩,.int .i64 0,.int .i64 0] 47)).setRow wr.heap.size (bg.mk wk wl wh).cells);obtain⟨wb,hwb⟩:=Nm (wr.heap.size);have Sn:Hid (bZ wx wb W_/\vV w qb sb xb rb B Q m (.slice sa n sc) X (.slice (some ⟨pa,Tu,none⟩) N wc) ws (.slice na nl.length nc) nl (.slice oa ol.length oc) ol wx):=by
    obtain⟨k1,k2⟩:=dW wr (bg.mk wk wl wh);rw[hwx,hwb,XP];exact Lh ⟨k1,HO.out.2.2.2.below k2⟩
   rw[<-hwx,<-hwb];clear hwx hwb c0' c1 c2;have Y6:Hid (W_=⟨wk,wl,wh⟩):=Lh XP;have XL:Hid (∀w',bZ w' wb W_->D3 w' wb wk wl wh):=by rw[XP];exact Lh (λw' h=>h.d3)
   have oW:Hid (Calls prog 63 #[.agg #[.int .i64 kind,.int .i64 size,.int .i64 slide,.int .i64 late,.int .i64 agg,.int .i64 kq],.slice na nl.length nc,.agg #[Sv wk,.int .i64 wl,.int .i64 wh]] wx (zo wx Q nl W_)):=by
    have h:=IB.out wx na nc nl W_ (bY.at Sn.out.2.2.2.1.1) ⟨HO.out.2.2.1.1,HO.out.2.2.1.2.1,by have:=HO.out.2.2.1.2.2;have:=HX.out.2.2;have:=HN.out.2;omega⟩ (ZJ.out.2 W_ HX.out.1)
    rw[XP]at h ⊢;exact Lh h
   clear XP;obtain⟨d0,d1,d2,d3,d4,d5⟩:=SV.out wx Sn.out.2.1.1;obtain⟨f0,f1,f2⟩:=XL.out wx Sn.out.1;go_upto_region 6 with(fail);refine bg4 ?_
   iterate 9 go_step
   refine wpList_plain rfl λK' hK'=>?_;go_step;refine oW.out.mono ?_;rintro e w5 ⟨lA,lG,lB,hl,hGm,uU,Ou,hBa,rfl,hB⟩;refine hK' _ _ ?_;clear hK' d0 d1 d2 d3 d4 d5 f0 f1 f2;obtain⟨SE,Tj⟩:=Nm (dN Q (nl.map bn.p) W_);rw[<-Tj]at Ou hBa;rw[<-Tj];have Td:Hid (nl=lA++lG++lB/\lG.map bn.p=dX Q (nl.map bn.p) W_/\(lA++lB).map bn.p=gK Q (nl.map bn.p) W_/\(∀a∈lA,bJ a.p.w SE)/\(∀x∈lB,bJ SE x.p.w)/\SE=dN Q (nl.map bn.p) W_/\SE.key.length<=1000000):=Lh ⟨hl,hGm,uU,Ou,hBa,Tj,by rw[Tj,zH (ZJ.out.2 W_ HX.out.1).1];exact(ZJ.out.2 W_ HX.out.1).2⟩
   have H5:=Lh (Sn.out.2.below hB);obtain⟨nA,OX⟩:=Nm (lA.length);obtain⟨nJ,OY⟩:=Nm (lA.length+lG.length);have HLen:Hid (nA=lA.length/\nJ=lA.length+lG.length/\nl.length=lA.length+lG.length+lB.length/\nl.length<=272):=Lh ⟨OX,OY,by rw[hl,bft,bft],by have:=HO.out.2.2.1.2.2;rw[bfz]at this;have:=HX.out.2.2;have:=HN.out.2;omega⟩
   rw[<-OY,<-OX];clear hl hGm uU Ou hBa Tj hB OX OY Sn oW XL;obtain⟨bec_,hbe⟩:=Nm (SE:bg);rw[<-hbe]at Td;obtain⟨bk,bl,bh⟩:=SE;have iJ:Hid (bec_=⟨bk,bl,bh⟩):=Lh hbe
   iterate 15 go_step
   refine bg6 rfl _ _ _ rfl w5.heap.size (bg.mk bk bl bh).cells rfl rfl 47 bX.cells (bg5 w5 _) dh rfl (dH _) ?_;obtain⟨w6,SN⟩:=Nm ((w5.alloc (Obj.cells #[.string ⟨#[]⟩,.int .i64 0,.int .i64 0] 47)).setRow w5.heap.size (bg.mk bk bl bh).cells);obtain⟨cb,hcb⟩:=Nm (w5.heap.size);have H6:Hid (bZ w6 cb bec_/\vV w qb sb xb rb B Q m (.slice sa n sc) X (.slice (some ⟨pa,Tu,none⟩) N wc) ws (.slice na nl.length nc) nl (.slice oa ol.length oc) ol w6):=by
    obtain⟨k1,k2⟩:=dW w5 (bg.mk bk bl bh);rw[SN,hcb,hbe];exact Lh ⟨k1,H5.out.below k2⟩
   rw[<-SN,<-hcb];have VN:Hid (∀w',bZ w' cb bec_->D3 w' cb bk bl bh):=by rw[hbe];exact Lh (λw' h=>h.d3)
   clear SN hcb H5;obtain⟨gn,hgn⟩:=Nm (gy Q bec_ m);obtain⟨rp,TY⟩:=Nm (ji bec_ m);have WP:Hid (∀w',Calls prog 50 #[.agg #[.int .i64 kind,.int .i64 size,.int .i64 slide,.int .i64 late,.int .i64 agg,.int .i64 kq],.agg #[Sv bk,.int .i64 bl,.int .i64 bh],.int .i64 m] w' (bE w' (.bool gn))):=by
    have h:=λw'=>V7.out w' bec_ Td.out.2.2.2.2.2.2;rw[<-hgn,hbe]at h;exact Lh h
   have Wn:Hid (∀w',Calls prog 51 #[.agg #[Sv bk,.int .i64 bl,.int .i64 bh],.int .i64 m] w' (bE w' (.bool rp))):=by
    have h:=λw'=>uo.out w' bec_ Td.out.2.2.2.2.2.2;rw[<-TY,hbe]at h;exact Lh h
   have aB:Hid (gn=gy Q bec_ m/\rp=ji bec_ m):=Lh ⟨hgn,TY⟩;clear hgn TY hbe;obtain⟨d0,d1,d2,d3,d4,d5⟩:=SV.out w6 H6.out.2.1.1;obtain⟨f0,f1,f2⟩:=VN.out w6 H6.out.1;obtain⟨e0,e1⟩:=H6.out.2.1.2.1.d2
   cases gn with
   | true=>
    go_wp2_with(fail);refine(WP.out w6).mono ?_;rintro e w7 ⟨rfl,hB⟩;have H7:=Lh (H6.out.2.below hB);clear hB d0 d1 d2 d3 d4 d5 e0 e1 f0 f1 f2;dsimp only;go_wp2_with(fail);refine⟨⟨i+1,by rw[<-HN.out.1];exact HX.out.2.2,rfl,nl,ol,lt,rfl,by have:=HO.out.1;omega,?_,?_,H7.out⟩,by rw[dU,dU];have:=HX.out.2.2;omega⟩
    ·rw[l5 HO.out.2.1 HX.out.2.1,kW,<-Td.out.2.2.2.2.2.1,<-aB.out.1,if_pos rfl,if_pos rfl]
    exact⟨HO.out.2.2.1.1,HO.out.2.2.1.2.1,by have:=HO.out.2.2.1.2.2;omega⟩
   | false=>
    go_wp2_with(fail);refine(WP.out w6).mono ?_;rintro e w7 ⟨rfl,hB⟩;have H7:Hid (bZ w7 cb bec_/\vV w qb sb xb rb B Q m (.slice sa n sc) X (.slice (some ⟨pa,Tu,none⟩) N wc) ws (.slice na nl.length nc) nl (.slice oa ol.length oc) ol w7):=Lh ⟨H6.out.1.below hB,H6.out.2.below hB⟩;clear hB d0 d1 d2 d3 d4 d5 e0 e1 f0 f1 f2 H6;dsimp only;go_upto_region 9 with(fail);obtain⟨gp,ZQ⟩:=Nm ((dJ Q bec_ (dX Q (nl.map bn.p) W_) X.value).1);obtain⟨er,her⟩:=Nm ((dJ Q bec_ (dX Q (nl.map bn.p) W_) X.value).2);have TA:Hid ((er≠0->dC Q m X.value ws c0=⟨[],[],false,er⟩)/\(er=0->1073741824<(fC gp m).r->dC Q m X.value ws c0=⟨[],[],false,20⟩)/\
      (er=0->¬1073741824<(fC gp m).r->dL Q (lA.map bn.p++fC gp m::lB.map bn.p) (256+i+1)/\dC Q m X.value ws c0=dC Q m X.value (ws.drop (i+1)) ⟨lA.map bn.p++fC gp m::lB.map bn.p,ol.map bM.o++(if rp=true then [kS Q (fC gp m)]else []),false,0⟩)/\
      (er=0->(0<=gp.r/\gp.r<=1073741824)/\gp.a.top.length<=1000000/\gp.w=bec_)):=by
     obtain⟨k1,k2,k3,k4,k5,k6,k7⟩:=Td.out;rw[aB.out.2];rw[k6]at ZQ her ⊢;exact Lh (LC HO.out.2.1 HX.out.2.1 HO.out.2.2.1 (ZJ.out.2 W_ HX.out.1) (by rw[<-k3,bgl]) (λa ha=>by obtain⟨z,hz,rfl⟩:=List.mem_map.1 ha;rw[<-k6];exact k4 z hz) (λa ha=>by obtain⟨z,hz,rfl⟩:=List.mem_map.1 ha;rw[<-k6];exact k5 z hz) (by rw[<-k6];exact aB.out.1.symm) ZQ her)
    obtain⟨a5,c5,hsl,Ot⟩:=Kn (i:=nA) (j:=nJ) H7.out.2.2.2.1.1 (by have:=HLen.out;omega) (by have:=HLen.out;omega)
    have hG5:(nl.take nJ).drop nA=lG:=by
     obtain⟨k1,k2,_,_⟩:=HLen.out;rw[Td.out.1,k1,k2,List.take_append_of_le_length (by rw[bft];omega),List.take_of_length_le (by rw[bft];omega),List.drop_left]
    rw[hG5]at Ot;obtain⟨nG,hnG⟩:=Nm (nJ - nA);rw[<-hnG]at hsl;have Ai:nG=lG.length:=by have:=HLen.out;omega
    have YX:Hid (∀w',Bw w7 w'->Calls prog 64 #[.agg #[.int .i64 kind,.int .i64 size,.int .i64 slide,.int .i64 late,.int .i64 agg,.int .i64 kq],.agg #[Sv bk,.int .i64 bl,.int .i64 bh],.slice a5 nG c5,.int .i64 v_] w' (rR w' gp er)):=by
     have hmem:∀y∈lG,y∈nl:=λy hy=>by rw[Td.out.1];simp[hy]
     refine Lh (λw' h=>?_);have h2:=Iw.out w' bec_ a5 c5 lG (Ot.below h) (λy hy=>(H7.out.2.2.2.1.2 y (hmem y hy)).1.below h) ⟨λy hy=>(HO.out.2.2.1.2.1 y.p (List.mem_map.2 ⟨y,hmem y hy,rfl⟩)).2,by have:=HLen.out;omega⟩
     rw[Td.out.2.1,<-ZQ,<-her,<-Ai,iJ.out]at h2;exact h2
    have SB:Hid (Bw w7 w7.drew):=Lh (Below.refl _ w7).drew;have ED:Hid (∀w',Bw w7 w'->D6 w' qb kind size slide late agg kq):=Lh (λw' h=>SV.out w' (H7.out.2.1.1.below h));have Im:Hid (∀w',Bw w7 w'->D3 w' cb bk bl bh):=Lh (λw' h=>VN.out w' (H7.out.1.below h));have YL:Hid (∀w',Bw w7 w'->DX w' xb TB xk xt v_):=Lh (λw' h=>Vu.out w' (H7.out.2.1.2.2.1.below h));have iI:∀w',Bw w7 w'->∃b,Value.pointer (some ⟨w'.heap.size,0,none⟩)=.pointer (some ⟨b,0,none⟩)/\w7.heap.size<=b/\(if 1<=1 then cz (w'.alloc (.cells cO.cells 55)) b cO else ∃Y:bn,cz (w'.alloc (.cells cO.cells 55)) b Y/\DD w7.heap.size gp (w'.alloc (.cells cO.cells 55)) Y):=λw' h=>⟨_,rfl,h.size,bg5 w' _⟩
    clear ZQ her Ot hG5 hnG Ai;refine dZ (λi=>([]:List Nat).contains i) (by kernel_rfl) (NoF (NoF [none,none,some 0,some 1,none])) [12,13] (DT (([.agg #[.int .i64 kind,.int .i64 size,.int .i64 slide,.int .i64 late,.int .i64 agg,.int .i64 kq],.agg #[Sv bk,.int .i64 bl,.int .i64 bh],.slice na nl.length nc,.int .i64 (nA:Int),.int .i64 (nJ:Int),.slice a5 nG c5,.pointer (some ⟨xb,3,none⟩),.int .i64 v_,undef,undef,undef,.int .i64 er,undef,undef,.int .i64 er]:List Value)) (QB w7.heap.size gp er)) (λ_ w'=>Bw w7 w') (λw w'=>Bw w w') (lX _ _ QC) (by kernel_rfl) (by kernel_rfl) (by kernel_rfl) SB.out (λ_=>⟨rfl,rfl,rfl,rfl,rfl,rfl,rfl,rfl,rfl,rfl,rfl,rfl,rfl,rfl,rfl,trivial⟩) (λ_ h=>by simp at h) ?_ ?_
    ·refine ⟨?_,?_,?_,?_,?_,?_,?_,?_,?_,?_,?_,?_,?_,?_,?_,trivial⟩<;>(first|(intro _ _ a w' hG Si Sj K hK;guard_hyp w':World)|intro _ a w' hG Si Sj K hK)<;>replace Si:=Lh Si<;>replace Sj:=Lh Sj
     have q3:=FaA Si 3 qb 0;obtain⟨d0,d1,d2,d3,d4,d5⟩:=ED.out w' hG;rotate_left;have Ww:=FaA Si 14 cb 0;obtain⟨f0,f1,f2⟩:=Im.out w' hG;rotate_left;have q9:=FoA Si 9 (.slice na nl.length nc);rotate_left;have Xv:=FiA Si 15 nA;rotate_left;have q16:=FiA Si 16 nJ;rotate_left;have iF:=Ep a 49 (.slice na nl.length nc) Sj.out.1;have EX:=Pi a 50 nA Sj.out.2.1;have EY:=Pi a 51 nJ Sj.out.2.2.1;rotate_left;have q5:=FaA Si 5 xb 0;rotate_left;have Um:=Pa a 53 xb 3 Sj.out.1;obtain⟨x0,x1,x2,x3⟩:=YL.out w' hG;rotate_left
     ·have Zz:=Ep a 47 (.agg #[.int .i64 kind,.int .i64 size,.int .i64 slide,.int .i64 late,.int .i64 agg,.int .i64 kq]) Sj.out.1;have Z7:=Ep a 48 (.agg #[Sv bk,.int .i64 bl,.int .i64 bh]) Sj.out.2.1;have AV:=Ep a 52 (.slice a5 nG c5) Sj.out.2.2.1;have EZ:=Pi a 54 v_ Sj.out.2.2.2.1;have HS:=Lh (YX.out w' hG);go_step;refine HS.out.mono ?_;rintro e w3 ⟨Y,hYp,rfl,hYg,hB,hYn⟩;exact hK _ _ ⟨Y,rfl,hYp,hYg,λa n c e=>bgn hG.size (hYn a n c e)⟩ (Tb hG hB) hB
     ·obtain ⟨p0,_⟩:=Sj.out;obtain⟨Y,hv,hY⟩:=(show ∃Y:bn,a.eval (.tmp 55)=.tuple #[.agg Y.cells,.int .i64 er]/\DD w7.heap.size gp w' Y from p0);have ZA:=bf hv;clear hv;go_step;exact hK _ _ ⟨Y,rfl,hY⟩ hG Br
     ·obtain ⟨p0,_⟩:=Sj.out;obtain⟨Y,hv,hY⟩:=(show ∃Y:bn,a.eval (.tmp 46)=.tuple #[.agg Y.cells,.int .i64 er]/\DD w7.heap.size gp w' Y from p0);have Zy:=bf hv;clear hv;go_step;exact hK _ _ ⟨Y,rfl,hY⟩ hG Br
     obtain ⟨p0,_⟩:=Sj.out;obtain⟨Y,hv,hY⟩:=(show ∃Y:bn,a.eval (.tmp 46)=.tuple #[.agg Y.cells,.int .i64 er]/\DD w7.heap.size gp w' Y from p0);have Zy:=bf hv;clear hv;rotate_left
     ·go_step;exact hK _ _ (iI w' hG) (hG.trans (((Below.refl _ w').alloc (bfx _) _).mono hG.size)) (gN _ (Lb ((Below.refl _ w').alloc (bfx _) _)))
     ·obtain⟨p0,p1,_⟩:=Sj.out;obtain⟨b,hv,WW,hrow⟩:=(show ∃b,a.eval (.tmp 17)=.pointer (some ⟨b,0,none⟩)/\w7.heap.size<=b/\(if 1<=1 then cz w' b cO else ∃Y:bn,cz w' b Y/\DD w7.heap.size gp w' Y)from p0)
      obtain⟨Y,hv2,hY⟩:=(show ∃Y:bn,a.eval (.tmp 56)=.agg Y.cells/\DD w7.heap.size gp w' Y from p1);rw[if_pos (bfx 1)]at hrow;refine M4 (.tmp 17) (.tmp 56) rfl b Y cO hv hv2 hrow ?_;have hg:=bC w' b Y.cells;have hr2:cz (w'.setRow b Y.cells) b Y:=setRow_heap _ _ _ _ _ _ hrow;exact hK _ _ rfl (hG.trans ⟨hg.os,hg.tape,hg.output,hg.size,λk hk=>hg.block k (by have:=hG.size;omega) (by simp;omega)⟩) (gN _ (M8 rfl hv hrow WW hg hr2 (hY.store hrow hg)))
     have q57:=Pi a 57 er Sj.out.1;rotate_left
     all_goals(go_step;exact hK _ _ rfl hG Br)
    intro vs w8 hG hlen hV
    match vs,hlen,hV with
    | [v0,v1,v2,v3,v4,v5,v6,v7,v8,v9,v10,v11,v12,v13,v14],_,hV=>
     obtain⟨pb,hvb,hpb,hrow⟩:=(show ∃b,v12=.pointer (some ⟨b,0,none⟩)/\w7.heap.size<=b/\(if 2<=1 then cz w8 b cO else ∃Y:bn,cz w8 b Y/\DD w7.heap.size gp w8 Y)from hV 12 17 v12 rfl rfl)
     obtain rfl:v14=.int .i64 er:=hV 14 18 v14 rfl rfl;rw[if_neg (by decide)]at hrow
     obtain⟨Y,hrow,hY⟩:=hrow;subst hvb;clear hV;have H8:Hid (bZ w8 cb bec_/\vV w qb sb xb rb B Q m (.slice sa n sc) X (.slice (some ⟨pa,Tu,none⟩) N wc) ws (.slice na nl.length nc) nl (.slice oa ol.length oc) ol w8/\cz w8 pb Y/\DD w7.heap.size gp w8 Y/\w7.heap.size<=pb):=Lh ⟨H7.out.1.below hG,H7.out.2.below hG,hrow,hY,hpb⟩;clear hrow hY hpb hG hsl iI SB YX;simp only[dG,bf7,bf1];simp only[Act.put,bfw,bfu,bfv];by_cases he:er=0
     ·have Vl:=Lh (TA.out.2.2.1 he);have HOv:=Lh (TA.out.2.1 he);have YW:=Lh (TA.out.2.2.2 he);subst he;clear TA;obtain⟨e0,e1⟩:=H8.out.2.1.1.2.1.d2;obtain⟨f0,f1,f2⟩:=VN.out w8 H8.out.1;go_upto_region 12 with(fail);obtain⟨Y_,Zh⟩:=Nm (Y:bn);rw[<-Zh]at H8;obtain⟨⟨⟨yk,yl,yh⟩,⟨yn,ya,yt,yu,yv⟩,yr⟩,Vd,yz,Tv,VC⟩:=Y;have uG:Hid (0<=yr/\yr<=1073741824):=by
       have h:=YW.out.1;rw[<-H8.out.2.2.2.1.1,Zh]at h;exact Lh h
      have hyr:=uG.out
      cases rp with
      | false=>
       go_wp2_with(fail);refine(Wn.out w8).mono ?_;rintro e w9 ⟨rfl,hB⟩;have H9:Hid (vV w qb sb xb rb B Q m (.slice sa n sc) X (.slice (some ⟨pa,Tu,none⟩) N wc) ws (.slice na nl.length nc) nl (.slice oa ol.length oc) ol w9/\cz w9 pb Y_/\bR w9 Y_):=Lh ⟨H8.out.2.1.below hB,H8.out.2.2.1.below hB,H8.out.2.2.2.1.2.1.below hB⟩;clear hB e0 e1 f0 f1 f2;dsimp only;have Va:Hid (Y_=(bn.mk ⟨⟨yk,yl,yh⟩,⟨yn,ya,yt,yu,yv⟩,yr⟩ Vd yz Tv VC)):=Lh Zh;have YM:Hid (∀w',cz w' pb Y_->D8 w' pb (bn.mk ⟨⟨yk,yl,yh⟩,⟨yn,ya,yt,yu,yv⟩,yr⟩ Vd yz Tv VC)):=by rw[Zh];exact Lh (λw' h=>h.d8)
       have YH:Hid (fC gp m=Y_.p):=by
        unfold fC;rw[if_neg (by rw[YW.out.2.2,<-aB.out.2];decide)]
        exact Lh H8.out.2.2.2.1.1.symm
       clear Zh;obtain⟨g0,g1,g2,g3,g4,g5,g6,g7⟩:=YM.out w9 H9.out.2.1;go_upto_region 17 with(fail);clear g0 g1 g2 g3 g4 g5 g6 g7;obtain⟨g0,g1,g2,g3,g4,g5,g6,g7⟩:=YM.out w9 H9.out.2.1;go_upto_region 17 with(fail);refine bg4 ?_
       iterate 12 go_step
       refine fD rfl (.tmp 83) rfl Y_ (by show _=Value.agg (bn.cells _);rw[Va.out];rfl) ?_
       have Zd:Bw w9 (w9.alloc (.cells (bn.cells Y_) 55)):=(Below.refl _ w9).alloc (bfx _) _;obtain⟨wn,hwn⟩:=Nm (w9.alloc (.cells (bn.cells Y_) 55));obtain⟨nb,hnb⟩:=Nm (w9.heap.size);have hrow:cz wn nb Y_:=by rw[hwn,hnb];exact bg5 w9 _
       rw[<-hwn]at Zd;have Hn:Hid (vV w qb sb xb rb B Q m (.slice sa n sc) X (.slice (some ⟨pa,Tu,none⟩) N wc) ws (.slice na nl.length nc) nl (.slice oa ol.length oc) ol wn/\cz wn nb Y_/\bR wn Y_/\((.slice na nl.length nc):Value).ownBlock≠some nb):=Lh ⟨H9.out.1.below Zd,hrow,H9.out.2.2.below Zd,by rw[hnb];exact(H9.out.1.off (bfx _)).2.1⟩
       rw[<-hwn,<-hnb];clear hwn hnb Zd hrow g0 g1 g2 g3 g4 g5 g6 g7;have aL:Hid (Calls prog 66 #[(.slice na nl.length nc),.int .i64 (nA:Int),.int .i64 (nJ:Int),.slice (some ⟨nb,0,none⟩) 1 1] wn (mD wn B (.slice na nl.length nc) (nl.take nA++[Y_]++nl.drop nJ))):=by
        have hl:=HLen.out;have hs:=Hn.out.1.2.2.2.2.1.size;exact Lh (wV wn B nA nJ nb _ nl Y_ Hn.out.1.2.2.1.1 Hn.out.2.1 Hn.out.2.2.2 (by omega) (by omega) (by have:=cK.lt Hn.out.1.2.1 (k:=pa) rfl;omega) (by omega))
       refine wpList_plain rfl λK' hK'=>?_;go_step;refine aL.out.mono ?_;rintro e wl ⟨ZX,rfl,k1,k2,k3⟩;refine hK' _ _ ?_;clear hK';have HZ:Hid (vV w qb sb xb rb B Q m (.slice sa n sc) X (.slice (some ⟨pa,Tu,none⟩) N wc) ws ZX (lA++[Y_]++lB) (.slice oa ol.length oc) ol wl):=by
        have h1:nl.take nA=lA:=by rw[Td.out.1,HLen.out.1,bgz,List.take_left]
        have h2:nl.drop nJ=lB:=by rw[Td.out.1,HLen.out.2.1,<-bft,List.drop_left]
        rw[h1,h2]at k1;refine Lh (Hn.out.1.RA SA.out.1 (y:=Y_) (λz hz=>?_) Hn.out.2.2.1 (λa n c e _=>(H7.out.2.off (H8.out.2.2.2.1.2.2 a n c e)).2) k1 k2 k3);rw[Td.out.1];simp only[bgg,bgd]at hz ⊢;rcases hz with(hz | hz) | hz
        ·exact .inl (.inl (.inl hz))
        ·exact .inr hz
        exact .inl (.inr hz)
       clear k1 k2 k3;go_wp2_with(fail);refine⟨⟨i+1,by rw[<-HN.out.1];exact HX.out.2.2,rfl,lA++[Y_]++lB,ol,false,rfl,(by have:=HO.out.1;omega),?_,?_,HZ.out⟩,by rw[dU,dU];have:=HX.out.2.2;omega⟩
       ·have h:=(Vl.out (by rw[YH.out,Va.out];first | exact uG.out.2 | exact Int.not_lt.2 uG.out.2)).2
        rw[YH.out,if_neg (by decide),bg2]at h
        rw[h];simp only[bgl,bgc,bgz,List.cons_append,List.nil_append]
       have h:=(Vl.out (by rw[YH.out,Va.out];first | exact uG.out.2 | exact Int.not_lt.2 uG.out.2)).1
       rw[YH.out]at h;simp only[bgl,bgc,bgz,List.cons_append,List.nil_append];exact h
      | true=>
       go_wp2_with(fail);refine(Wn.out w8).mono ?_;rintro e w9 ⟨rfl,hB⟩;have H9:Hid (vV w qb sb xb rb B Q m (.slice sa n sc) X (.slice (some ⟨pa,Tu,none⟩) N wc) ws (.slice na nl.length nc) nl (.slice oa ol.length oc) ol w9/\cz w9 pb Y_/\bR w9 Y_):=Lh ⟨H8.out.2.1.below hB,H8.out.2.2.1.below hB,H8.out.2.2.2.1.2.1.below hB⟩;clear hB e0 e1 f0 f1 f2;dsimp only;have uF:Hid (∀w',cz w' pb Y_->D8 w' pb (bn.mk ⟨⟨yk,yl,yh⟩,⟨yn,ya,yt,yu,yv⟩,yr⟩ Vd yz Tv VC)):=by rw[Zh];exact Lh (λw' h=>h.d8)
       obtain⟨g0,g1,g2,g3,g4,g5,g6,g7⟩:=uF.out w9 H9.out.2.1;go_upto_region 13 with(fail);refine bg4 ?_
       iterate 12 go_step
       refine bU rfl _ (.tmp 69) (.tmp 68) rfl ⟨pb,7,none⟩ (.int .i64 (yr+1)) (.int .i64 yr) rfl rfl rfl rfl sizeOf3 g7 (cz.qi H9.out.2.1 7) ?_;obtain⟨Vo,Tk⟩:=Nm (w9.setCell ⟨pb,7,none⟩ (.int .i64 (yr+1)));obtain⟨Z_,hZ⟩:=Nm (⟨⟨Y_.p.w,Y_.p.a,yr+1⟩,Y_.tv,Y_.z,Y_.ht,Y_.hz⟩:bn);have TV:Hid (vV w qb sb xb rb B Q m (.slice sa n sc) X (.slice (some ⟨pa,Tu,none⟩) N wc) ws (.slice na nl.length nc) nl (.slice oa ol.length oc) ol Vo/\cz Vo pb Z_/\bR Vo Z_):=by
        have hg:w9.grownBy Vo (some pb):=by rw[Tk];exact bL _ _ _ _
        have hG:=bR.store H9.out.2.2 H9.out.2.1 hg;refine Lh ⟨H9.out.1.set SA.out.1 (by have:=cK.lt H7.out.2.2.1 (k:=pa) rfl;have:=H8.out.2.2.2.2;omega) H9.out.2.1 (H7.out.2.off H8.out.2.2.2.2) hg,by rw[hZ,Tk];exact H9.out.2.1.Kl _,?_⟩
        rw[hZ];exact⟨hG.1,hG.2⟩
       have YH:Hid (fC gp m=Z_.p):=by
        have hp:=H8.out.2.2.2.1.1;have hr:gp.r=yr:=by rw[<-hp,Zh]
        unfold fC;rw[if_pos (by rw[YW.out.2.2];exact aB.out.2.symm),hZ,<-hr,hp]
        exact Lh rfl
       have Va:Hid (Z_=(bn.mk ⟨⟨yk,yl,yh⟩,⟨yn,ya,yt,yu,yv⟩,(yr+1)⟩ Vd yz Tv VC)):=by rw[hZ,Zh];exact Lh rfl
       have YM:Hid (∀w',cz w' pb Z_->D8 w' pb (bn.mk ⟨⟨yk,yl,yh⟩,⟨yn,ya,yt,yu,yv⟩,(yr+1)⟩ Vd yz Tv VC)):=by rw[Va.out];exact Lh (λw' h=>h.d8)
       have I9:Hid (Z_.tv=Y_.tv/\Z_.p.a.top.length<=1000000):=by
        rw[hZ];refine Lh ⟨rfl,?_⟩;show Y_.p.a.top.length<=1000000;rw[H8.out.2.2.2.1.1];exact YW.out.2.1
       rw[<-Tk];clear Tk hZ Zh g0 g1 g2 g3 g4 g5 g6 g7 H9 uF;have HT:Hid (Calls prog 65 #[.agg #[.int .i64 kind,.int .i64 size,.int .i64 slide,.int .i64 late,.int .i64 agg,.int .i64 kq],.agg #[Sv yk,.int .i64 yl,.int .i64 yh,.int .i64 yn,.int .i64 ya,Vd,yz,.int .i64 (yr+1)]] Vo (xI Vo (kS Q Z_.p))):=by
        have h:=iR.out Vo Z_ TV.out.2.2 I9.out.2;rw[Va.out]at h ⊢;exact Lh h
       obtain⟨d0,d1,d2,d3,d4,d5⟩:=SV.out Vo TV.out.1.1.1;obtain⟨g0,g1,g2,g3,g4,g5,g6,g7⟩:=YM.out Vo TV.out.2.1;go_upto_region 14 with(fail);refine bg4 ?_
       iterate 9 go_step
       refine wpList_plain rfl λK' hK'=>?_;go_step;refine HT.out.mono ?_;rintro e Tq ⟨tv,ht,rfl,hI,hB,Yl⟩;refine hK' _ _ ?_;clear hK' d0 d1 d2 d3 d4 d5 g0 g1 g2 g3 g4 g5 g6 g7;obtain⟨O,Ym⟩:=Nm (⟨kS Q Z_.p,tv,ht⟩:bM);rw[<-Ym];refine mH rfl (.tmp 73) rfl O rfl ?_;have Zc:Bw Tq (Tq.alloc (.cells O.cells 50)):=(Below.refl _ Tq).alloc (bfx _) _;obtain⟨Xh,Tm⟩:=Nm (Tq.alloc (.cells O.cells 50));obtain⟨ob,Vm⟩:=Nm (Tq.heap.size);have hrow:jN Xh ob O:=by rw[Tm,Vm];exact bg5 Tq _
       rw[<-Tm]at Zc;have Tc:Hid (vV w qb sb xb rb B Q m (.slice sa n sc) X (.slice (some ⟨pa,Tu,none⟩) N wc) ws (.slice na nl.length nc) nl (.slice oa ol.length oc) ol Xh/\cz Xh pb Z_/\bR Xh Z_/\jN Xh ob O/\dO Xh O/\O.o=kS Q Z_.p/\∀a n c,O.tv=.slice (some a) n c->Vo.heap.size<=a.block):=by
        have hb:=Tb hB Zc;refine Lh ⟨TV.out.1.below hb,TV.out.2.1.below hb,TV.out.2.2.below hb,hrow,?_,by rw[Ym],by rw[Ym];exact Yl⟩
        rw[Ym];exact hI.below Zc
       have HOo:=Lh Tc.out.2.2.2.2.2.1;rw[<-Tm,<-Vm];clear Tm Vm Zc hB hI Yl Ym hrow;refine rE rfl (.tmp 70) (.tmp 74) rfl B _ ol rfl Tc.out.1.2.2.2.1.1 O ob rfl (λj z hz=>Tc.out.2.2.2.1.cell j hz) (by have:=HO.out.1;have:=HX.out.2.2;omega) (by have:=cK.lt Tc.out.1.2.1 (k:=pa) rfl;omega) ?_
       intro v7 Xx g1 g2 g3;have Wj:Hid (vV w qb sb xb rb B Q m (.slice sa n sc) X (.slice (some ⟨pa,Tu,none⟩) N wc) ws (.slice na nl.length nc) nl v7 (ol++[O]) Xx/\cz Xx pb Z_/\bR Xx Z_):=by
        refine Lh ⟨Tc.out.1.out SA.out.1 Tc.out.2.2.2.2.1 (λa n c e _=>(TV.out.1.off (Tc.out.2.2.2.2.2.2 a n c e)).2) g1 g2 g3,dz g2 Tc.out.2.1 (λe=>(H7.out.2.off H8.out.2.2.2.2).2.2 e.symm),⟨bA.qR Tc.out.2.2.1.1 g2 (λa n c e hn=>(H7.out.2.off (H8.out.2.2.2.1.2.2 a n c (by rw[<-I9.out.1];exact e))).2.2),Tc.out.2.2.1.2⟩⟩
       have IP:Hid (∀a n c,Z_.tv=.slice (some a) n c->Z_.p.a.top≠[]->((.slice na nl.length nc):Value).ownBlock≠some a.block/\v7.ownBlock≠some a.block):=by
        refine Lh (λa n c e hn=>?_);have h:=(H7.out.2.off (H8.out.2.2.2.1.2.2 a n c (by rw[<-I9.out.1];exact e))).2
        refine⟨h.1,λhe=>?_⟩;rcases g3 with g3 | g3
        ·rw[g3]at he;exact h.2 he
        rw[g3]at he;have:=bA.lt Tc.out.2.2.1.1 e hn;have he':=Option.some.inj he;omega
       clear g1 g2 g3;obtain⟨g0,g1,g2,g3,g4,g5,g6,g7⟩:=YM.out Xx Wj.out.2.1;by_cases hov:1073741824<yr+1
       ·have HW9:Hid (dC Q m X.value ws c0=⟨[],[],false,20⟩):=Lh (HOv.out (by rw[YH.out,Va.out];exact hov))
        go_upto_region 16 with(fail);clear g0 g1 g2 g3 g4 g5 g6 g7;refine bg4 ?_
        iterate 0 go_step
        refine dm (by kernel_rfl) 29 _ rfl #[.int .i64 0,.slice none 0 0] (by first | exact jC | (simp only[bgb,bge];exact jC) | kernel_rfl) ?_
        iterate 0 go_step
        refine bg6 rfl _ _ _ rfl rb #[.int .i64 0,.slice none 0 0] rfl rfl 29 #[.int .i64 0,bS] Wj.out.1.1.2.2.2 bF rfl (cB rfl) ?_;obtain⟨wz,hwz⟩:=Nm (Xx.setRow rb #[.int .i64 0,.slice none 0 0]);have HZ:Hid (bT wz rb 0 bS/\P (.returned (.tuple #[.agg #[.int .i64 0,.slice none 0 0],.slice none 0 0,.int .i64 20])) wz):=by
         have hg:Xx.grownBy wz (some rb):=by rw[hwz];exact bC _ _ _
         have hB:=Wj.out.1.2.2.2.2.1;exact Lh ⟨by rw[hwz];exact bT.reset Wj.out.1.1.2.2.2 0 _,TM.out wz ⟨[],[],false,20⟩ HW9.out (by decide) (hB.trans (bG hg SA.out.2.1 hB.size))⟩
        rw[<-hwz];clear hwz;go_wp2_with(fail);exact bodyPost_ret (v:=.tuple #[.agg #[.int .i64 0,.slice none 0 0],.slice none 0 0,.int .i64 20]) ((bQ (p:=6) (s:=7) (u:=8) (ty:=29) rfl _ _ rb 29 #[.int .i64 0,.slice none 0 0] (0,0) _ rfl HZ.out.1 underlying29 rfl bF).trans rfl) rfl HZ.out.2
       go_upto_region 17 with(fail);clear g0 g1 g2 g3 g4 g5 g6 g7;obtain⟨g0,g1,g2,g3,g4,g5,g6,g7⟩:=YM.out Xx Wj.out.2.1;go_upto_region 17 with(fail);refine bg4 ?_
       iterate 12 go_step
       refine fD rfl (.tmp 83) rfl Z_ (by show _=Value.agg (bn.cells _);rw[Va.out];rfl) ?_
       have Zd:Bw Xx (Xx.alloc (.cells (bn.cells Z_) 55)):=(Below.refl _ Xx).alloc (bfx _) _;obtain⟨wn,hwn⟩:=Nm (Xx.alloc (.cells (bn.cells Z_) 55));obtain⟨nb,hnb⟩:=Nm (Xx.heap.size);have hrow:cz wn nb Z_:=by rw[hwn,hnb];exact bg5 Xx _
       rw[<-hwn]at Zd;have Hn:Hid (vV w qb sb xb rb B Q m (.slice sa n sc) X (.slice (some ⟨pa,Tu,none⟩) N wc) ws (.slice na nl.length nc) nl v7 (ol++[O]) wn/\cz wn nb Z_/\bR wn Z_/\((.slice na nl.length nc):Value).ownBlock≠some nb):=Lh ⟨Wj.out.1.below Zd,hrow,Wj.out.2.2.below Zd,by rw[hnb];exact(Wj.out.1.off (bfx _)).2.1⟩
       rw[<-hwn,<-hnb];clear hwn hnb Zd hrow g0 g1 g2 g3 g4 g5 g6 g7;have aL:Hid (Calls prog 66 #[(.slice na nl.length nc),.int .i64 (nA:Int),.int .i64 (nJ:Int),.slice (some ⟨nb,0,none⟩) 1 1] wn (mD wn B (.slice na nl.length nc) (nl.take nA++[Z_]++nl.drop nJ))):=by
        have hl:=HLen.out;have hs:=Hn.out.1.2.2.2.2.1.size;exact Lh (wV wn B nA nJ nb _ nl Z_ Hn.out.1.2.2.1.1 Hn.out.2.1 Hn.out.2.2.2 (by omega) (by omega) (by have:=cK.lt Hn.out.1.2.1 (k:=pa) rfl;omega) (by omega))
       refine wpList_plain rfl λK' hK'=>?_;go_step;refine aL.out.mono ?_;rintro e wl ⟨ZX,rfl,k1,k2,k3⟩;refine hK' _ _ ?_;clear hK';have HZ:Hid (vV w qb sb xb rb B Q m (.slice sa n sc) X (.slice (some ⟨pa,Tu,none⟩) N wc) ws ZX (lA++[Z_]++lB) v7 (ol++[O]) wl):=by
        have h1:nl.take nA=lA:=by rw[Td.out.1,HLen.out.1,bgz,List.take_left]
        have h2:nl.drop nJ=lB:=by rw[Td.out.1,HLen.out.2.1,<-bft,List.drop_left]
        rw[h1,h2]at k1;refine Lh (Hn.out.1.RA SA.out.1 (y:=Z_) (λz hz=>?_) Hn.out.2.2.1 IP.out k1 k2 k3);rw[Td.out.1];simp only[bgg,bgd]at hz ⊢;rcases hz with(hz | hz) | hz
        ·exact .inl (.inl (.inl hz))
        ·exact .inr hz
        exact .inl (.inr hz)
       clear k1 k2 k3;go_wp2_with(fail);refine⟨⟨i+1,by rw[<-HN.out.1];exact HX.out.2.2,rfl,lA++[Z_]++lB,ol++[O],false,rfl,(by rw[bft,bg0];have:=HO.out.1;omega),?_,?_,HZ.out⟩,by rw[dU,dU];have:=HX.out.2.2;omega⟩
       ·have h:=(Vl.out (by rw[YH.out,Va.out];first | exact hov | exact Int.not_lt.1 hov)).2
        rw[YH.out,if_pos (by trivial),<-HOo.out]at h
        rw[h];simp only[bgl,bgc,bge,bgz,List.cons_append,List.nil_append]
       have h:=(Vl.out (by rw[YH.out,Va.out];first | exact hov | exact Int.not_lt.1 hov)).1
       rw[YH.out]at h;simp only[bgl,bgc,bgz,List.cons_append,List.nil_append];exact h
     have he':(er==0)=false:=by simpa using he
     have HW8:Hid (dC Q m X.value ws c0=⟨[],[],false,er⟩):=Lh (TA.out.1 he);have ZG:=Lh he;clear he TA;go_upto_region 11 with(fail);refine bg4 ?_
     iterate 0 go_step
     refine dm (by kernel_rfl) 29 _ rfl #[.int .i64 0,.slice none 0 0] (by first | exact jC | (simp only[bgb,bge];exact jC) | kernel_rfl) ?_
     iterate 3 go_step
     refine bg6 rfl _ _ _ rfl rb #[.int .i64 0,.slice none 0 0] rfl rfl 29 #[.int .i64 0,bS] H8.out.2.1.1.2.2.2 bF rfl (cB rfl) ?_;obtain⟨wz,hwz⟩:=Nm (w8.setRow rb #[.int .i64 0,.slice none 0 0]);have HZ:Hid (bT wz rb 0 bS/\P (.returned (.tuple #[.agg #[.int .i64 0,.slice none 0 0],.slice none 0 0,.int .i64 er])) wz):=by
      have hg:w8.grownBy wz (some rb):=by rw[hwz];exact bC _ _ _
      have hB:=H8.out.2.1.2.2.2.2.1;exact Lh ⟨by rw[hwz];exact bT.reset H8.out.2.1.1.2.2.2 0 _,TM.out wz ⟨[],[],false,er⟩ HW8.out ZG.out (hB.trans (bG hg SA.out.2.1 hB.size))⟩
     rw[<-hwz];clear hwz;go_wp2_with(fail);exact bodyPost_ret (v:=.tuple #[.agg #[.int .i64 0,.slice none 0 0],.slice none 0 0,.int .i64 er]) ((bQ (p:=6) (s:=7) (u:=8) (ty:=29) rfl _ _ rb 29 #[.int .i64 0,.slice none 0 0] (0,0) _ rfl HZ.out.1 underlying29 rfl bF).trans rfl) rfl HZ.out.2
  obtain rfl:i=N:=by omega
  clear hlt hi;have HE:=Lh (Dy HO.out.2.1 (by rw[<-HN.out.1];omega))
  have hln:nl.length<=272:=by have h:=HO.out.2.2.1.2.2;rw[bfz]at h;have:=HN.out.2;omega
  cases lt with
  | true=>
   go_upto_region 20 with(fail);obtain⟨LO_,hLo⟩:=Nm (⟨sj X,bS,rfl⟩:bM);have aI:Hid (LO_=⟨sj X,bS,rfl⟩/\Value.agg LO_.cells=.agg #[.bool true,.int .i64 TB,Sv xk,.int .i64 xt,.int .i64 v_,.string ⟨#[]⟩,.int .i64 0,.int .i64 0,.int .i64 0,.slice none 0 0]):=by
    rw[hLo,Y7.out.2.1];exact Lh ⟨rfl,rfl⟩
   clear hLo;have HSw:Hid (∀w',wr.grownBy w' (some rb)->D2 w' sb m (.slice sa n sc)):=Lh (λw' hg=>(HO.out.2.2.2.1.2.1.grown hg (by have:=ZG.out;simp;omega)).d2)
   have YL:Hid (∀w',wr.grownBy w' (some rb)->DX w' xb TB xk xt v_):=Lh (λw' hg=>Vu.out w' (dz hg HO.out.2.2.2.1.2.2.1 (by have:=ZG.out;simp;omega)))
   have uj:Hid (sb≠rb/\xb≠rb/\rb<wr.heap.size):=Lh ⟨ZG.out.1,ZG.out.2,HO.out.2.2.2.1.2.2.2.lt⟩;have SB:Hid (wr.grownBy wr.drew (some rb)/\bT wr.drew rb (if 0=0 then 0 else m) (if 0=0 then bS else .slice sa n sc)):=by
    rw[if_pos rfl,if_pos rfl];exact Lh ⟨yK rb (Below.refl _ wr).drew,HO.out.2.2.2.1.2.2.2.below (Below.refl _ wr).drew⟩
   refine dZ (λi=>([]:List Nat).contains i) (by kernel_rfl) [none,none,none,none,some 0,none,none] [4] (DT (([.agg #[.int .i64 m,.slice sa n sc],.agg #[.int .i64 TB,Sv xk,.int .i64 xt,.int .i64 v_],.agg #[.bool true,.int .i64 TB,Sv xk,.int .i64 xt,.int .i64 v_,.string ⟨#[]⟩,.int .i64 0,.int .i64 0,.int .i64 0,.slice none 0 0],undef,undef,undef,.int .i64 0]:List Value)) (Rh wr.heap.size LO_)) (λk w'=>wr.grownBy w' (some rb)/\bT w' rb (if k=0 then 0 else m) (if k=0 then bS else .slice sa n sc)) (λw w'=>w.grownBy w' (some rb)) (lX _ _ (QG uj.out.2.2)) (by kernel_rfl) (by kernel_rfl) (by kernel_rfl) SB.out (λ_=>⟨rfl,rfl,rfl,rfl,rfl,rfl,rfl,trivial⟩) (λ_ h=>by simp at h) ?_ ?_
   ·refine ⟨?_,?_,?_,?_,?_,?_,?_,trivial⟩<;>(first|(intro _ _ a w' hG Si Sj K hK;guard_hyp w':World)|intro _ a w' hG Si Sj K hK)<;>replace Si:=Lh Si<;>replace Sj:=Lh Sj
    ·have q4:=FaA Si 4 sb 0;obtain⟨e0,e1⟩:=HSw.out w' hG.1;go_step;exact hK _ _ rfl hG (nH _ _)
    ·have q5:=FaA Si 5 xb 0;obtain⟨x0,x1,x2,x3⟩:=YL.out w' hG.1;go_step;exact hK _ _ rfl hG (nH _ _)
    ·have q90:=Ep a 90 (.agg #[.int .i64 TB,Sv xk,.int .i64 xt,.int .i64 v_]) Sj.out.1;have hb:=Jn TB xt v_ xk;go_step;exact hK _ _ rfl hG (nH _ _)
    ·obtain ⟨p0,_⟩:=Sj.out;have r91:=(show a.eval (.tmp 91)=.agg #[.bool true,.int .i64 TB,Sv xk,.int .i64 xt,.int .i64 v_,.string ⟨#[]⟩,.int .i64 0,.int .i64 0,.int .i64 0,.slice none 0 0]from p0);refine sJ (.tmp 91) rfl LO_ (r91.trans aI.out.2.symm) ?_;have hB:=(Below.refl _ w').alloc (bfx _) (.cells LO_.cells 50);have hg:=yK rb hB;exact hK _ _ ⟨_,rfl,hG.1.size,bg5 w' _⟩ ⟨mY hG.1 hg,hG.2.below hB⟩ hg
    ·obtain ⟨p0,_⟩:=Sj.out;have r6:=((Si.out 6 rfl).trans (show _=.pointer (some ⟨rb,0,none⟩)from rfl));have r89:=(show a.eval (.tmp 89)=.agg #[.int .i64 m,.slice sa n sc]from p0);have hrow:=hG.2;rw[if_pos rfl,if_pos rfl]at hrow;refine wp_store_row _ (.tmp 6) (.tmp 89) rfl rb #[.int .i64 m,.slice sa n sc] r6 r89 _ _ hrow bF rfl (cB rfl) ?_;have hg:w'.grownBy (w'.setRow rb #[.int .i64 m,.slice sa n sc]) (some rb):=bC _ _ _;exact hK _ _ rfl ⟨mY hG.1 hg,by rw[if_neg (by decide),if_neg (by decide)];exact hrow.reset m _⟩ (gN _ (Nk uj.out.2.2 hg))
    ·obtain ⟨p0,_⟩:=Sj.out;obtain⟨b,hv,WW,hrow⟩:=(show ∃b,a.eval (.tmp 92)=.slice (some ⟨b,0,none⟩) 1 1/\wr.heap.size<=b/\jN w' b LO_ from p0);have Ut:=bf hv;clear hv;go_step;exact hK _ _ ⟨b,rfl,WW,hrow⟩ hG (nH _ _)
    go_step;exact hK _ _ rfl hG (nH _ _)
   intro vs w2 hG hlen hV
   match vs,hlen,hV with
   | [v0,v1,v2,v3,v4,v5,v6],_,hV=>
    obtain⟨b,hv5,WW,hro⟩:=(show ∃b,v5=.slice (some ⟨b,0,none⟩) 1 1/\wr.heap.size<=b/\jN w2 b LO_ from hV 5 7 v5 rfl rfl);obtain rfl:v6=.int .i64 0:=hV 6 8 v6 rfl rfl;subst hv5;clear hV;have hrow:=hG.2;rw[if_neg (by decide),if_neg (by decide)]at hrow
    have TW:Bw w w2:=HO.out.2.2.2.2.2.2.2.1.trans (bG hG.1 SA.out.2.1 HO.out.2.2.2.2.2.2.2.1.size);have HZ:Hid (bT w2 rb m (.slice sa n sc)/\P (.returned (.tuple #[.agg #[.int .i64 m,.slice sa n sc],.slice (some ⟨b,0,none⟩) 1 1,.int .i64 0])) w2):=Lh ⟨hrow,Vf.out w2 _ _ HE.out rfl rfl ⟨_,1,[LO_],rfl,bfx _,gH.one (λj z hz=>hro.cell j hz),λz hz=>by rw[List.mem_singleton.1 hz,aI.out.1];exact bA.nil _,by rw[aI.out.1];rfl⟩ (HA.out.1.below TW) (λy hy=>(HA.out.2.1 y hy).below TW) TW⟩
    clear hrow hro WW hG TW;simp only[dG,bf7,bf1];simp only[Act.put,bfw,bfu,bfv];go_wp2_with(fail);exact bodyPost_ret (v:=.tuple #[.agg #[.int .i64 m,.slice sa n sc],.slice (some ⟨b,0,none⟩) 1 1,.int .i64 0]) ((bQ (p:=6) (s:=7) (u:=8) (ty:=29) rfl _ _ rb 29 #[.int .i64 m,.slice sa n sc] (0,0) _ rfl HZ.out.1 underlying29 rfl bF).trans rfl) rfl HZ.out.2
  | false=>
   by_cases hfu:256<nl.length
   ·have Iq:Hid (256<(nl.map bn.p).length):=by rw[bfz];exact Lh hfu
    go_upto_region 22 with(fail);refine bg4 ?_;refine dm (by kernel_rfl) 29 _ rfl #[.int .i64 0,.slice none 0 0] (by first | exact jC | (simp only[bgb,bge];exact jC) | kernel_rfl) ?_
    refine bg6 rfl _ _ _ rfl rb #[.int .i64 0,.slice none 0 0] rfl rfl 29 #[.int .i64 0,bS] HO.out.2.2.2.1.2.2.2 bF rfl (cB rfl) ?_;obtain⟨wz,hwz⟩:=Nm (wr.setRow rb #[.int .i64 0,.slice none 0 0]);have HZ:Hid (bT wz rb 0 bS/\P (.returned (.tuple #[.agg #[.int .i64 0,.slice none 0 0],.slice none 0 0,.int .i64 30])) wz):=by
     have hg:wr.grownBy wz (some rb):=by rw[hwz];exact bC _ _ _
     have hB:=HO.out.2.2.2.2.2.2.2.1;exact Lh ⟨by rw[hwz];exact bT.reset HO.out.2.2.2.1.2.2.2 0 _,VG.out wz _ HE.out rfl rfl Iq.out (hB.trans (bG hg SA.out.2.1 hB.size))⟩
    rw[<-hwz];clear hwz;go_wp2_with(fail);exact bodyPost_ret (v:=.tuple #[.agg #[.int .i64 0,.slice none 0 0],.slice none 0 0,.int .i64 30]) ((bQ (p:=6) (s:=7) (u:=8) (ty:=29) rfl _ _ rb 29 #[.int .i64 0,.slice none 0 0] (0,0) _ rfl HZ.out.1 underlying29 rfl bF).trans rfl) rfl HZ.out.2
   have Iq:Hid (¬256<(nl.map bn.p).length):=by rw[bfz];exact Lh hfu
   obtain⟨e0,e1⟩:=HO.out.2.2.2.1.2.1.d2;go_upto_region 23 with(fail);refine bg4 ?_
   iterate 9 go_step
   refine dm (by kernel_rfl) 29 _ rfl #[.int .i64 m,.slice na nl.length nc] (by simp only[bgb,bgc,bge];exact Fb m na nl.length nc) ?_
   iterate 3 go_step
   refine bg6 rfl _ _ _ rfl rb #[.int .i64 m,.slice na nl.length nc] rfl rfl 29 #[.int .i64 0,bS] HO.out.2.2.2.1.2.2.2 bF rfl (cB rfl) ?_;obtain⟨wz,hwz⟩:=Nm (wr.setRow rb #[.int .i64 m,.slice na nl.length nc]);have HZ:Hid (bT wz rb m (.slice na nl.length nc)/\P (.returned (.tuple #[.agg #[.int .i64 m,.slice na nl.length nc],.slice oa ol.length oc,.int .i64 0])) wz):=by
    have hg:wr.grownBy wz (some rb):=by rw[hwz];exact bC _ _ _
    obtain⟨⟨j1,j2,j3,j4⟩,jw,j5,j6,j7,j8,j9⟩:=HO.out.2.2.2;have hrb:=SA.out.1.2.2.2.2;have h5:=j5.1.kept hg (.inr (λe=>by have:=j5.1.lt e;omega))
    have h6:=j6.1.kept hg (.inr (λe=>by have:=j6.1.lt e;omega))
    obtain⟨Vx,Vy,hv',hc',Ta⟩:=h6.form;exact Lh ⟨by rw[hwz];exact bT.reset j4 m _,Sl.out wz _ _ nl _ HE.out rfl rfl Iq.out h5.ins (λy hy=>⟨(j5.2 y hy).1.1.grown hg (λa n' c e hn=>(j5.2 y hy).1.1.apart e hn j4 (by decide)),(j5.2 y hy).1.2⟩) rfl ⟨Vx,Vy,ol,hv',hc',Ta,λy hy=>bA.grown (j6.2 y hy).1 hg (λa n' c e hn=>bA.apart (j6.2 y hy).1 e hn j4 (by decide)),rfl⟩ (j7.trans (bG hg SA.out.2.1 j7.size))⟩
   rw[<-hwz];clear hwz e0 e1;go_wp2_with(fail);exact bodyPost_ret (v:=.tuple #[.agg #[.int .i64 m,.slice na nl.length nc],.slice oa ol.length oc,.int .i64 0]) ((bQ (p:=6) (s:=7) (u:=8) (ty:=29) rfl _ _ rb 29 #[.int .i64 m,.slice na nl.length nc] (0,0) _ rfl HZ.out.1 underlying29 rfl bF).trans rfl) rfl HZ.out.2
theorem bO.grown {w w':World} {v:Value} {l:List bn} {row:Option Nat}(h:bO w v l)(hg:w.grownBy w' row)(hn:∀b,row=some b->∃cs T fr,w.heap[b]? =some (.cells cs T fr)/\T≠55):bO w' v l:=by
 obtain⟨a',c',e,hc,h⟩:=h;refine⟨a',c',e,hc,?_⟩;rcases h with h | ⟨b',o,ha,ht,h⟩
 ·exact .inl h
 by_cases hl:l=[]
 ·exact .inr ⟨b',o,ha,.inl hl,λi x hx=>by rw[hl]at hx;simp at hx⟩
 rcases ht with ht | ⟨cur,ht⟩
 ·exact absurd ht hl
 have hne:some b'≠row:=λe=>by
  obtain⟨cs,T,fr,h1,h2⟩:=hn b' e.symm;rw[ht]at h1;simp only[bf5,Obj.cells.injEq]at h1;exact h2 h1.2.1.symm
 have hbl:=hg.block b' (Rq.lt ⟨cur,ht⟩) hne;refine .inr ⟨b',o,ha,.inr ⟨cur,hbl.trans ht⟩,λi x hx j u hu=>?_⟩;rw[<-h i x hx j u hu];unfold World.cell?;simp only[hbl]
theorem bO.store {w w':World} {v:Value} {l:List bn} {b n c:Nat} {m:Int} {a:Option Addr}(h:bO w v l)(hb:bT w b m (.slice a n c))(hg:w.grownBy w' (some b)):bO w' v l:=
 h.grown hg (λk hk=>by cases hk;exact⟨_,_,_,hb,by decide⟩)
theorem gH.store {w w':World} {l:List bM} {b n c:Nat} {m:Int} {a a':Option Addr}(h:gH w a' l)(hb:bT w b m (.slice a n c))(hg:w.grownBy w' (some b)):gH w' a' l:=by
 rcases h with h | ⟨b',o,ha,h⟩
 ·exact .inl h
 refine .inr ⟨b',o,ha,λi x hx j u hu=>?_⟩;have hcell:=h i x hx j u hu;have hne:b'≠b:=by
  rintro rfl;have hk:=h i x hx 0 _ rfl;rw[cell_of_row _ _ _ _ _ _ hb]at hk;have hlt:=(Array.getElem?_eq_some_iff.1 hk).1;have hlt2:o+i*10+0<2:=hlt
  match ho:o+i*10+0,hlt2,hk with
  | 0,_,hk=>
   have e:Value.int .i64 m=Value.bool x.o.late:=Option.some.inj hk;cases e
  | 1,_,hk=>
   have e:Value.slice a n c=Value.bool x.o.late:=Option.some.inj hk;cases e
 have hlt:=block_lt_of_cell hcell;have hbl:=hg.block b' hlt (by simpa using hne)
 rw[<-hcell];unfold World.cell?;simp only[hbl]
theorem bR.kJ {w w':World} {x:bn} {b:Nat} {m:Int} {pv:Value}(h:bR w x)(hb:bT w b m pv)(hg:w.grownBy w' (some b)):bR w' x:=
 ⟨h.1.grown hg (λ_ _ _ e hne=>h.1.apart e hne hb (by decide)),h.2⟩
theorem fw.store {w w':World} {v:Value} {o:List dB} {b n c:Nat} {m:Int} {a:Option Addr}(h:fw w v o)(hb:bT w b m (.slice a n c))(hg:w.grownBy w' (some b)):fw w' v o:=by
 obtain⟨a',c',l,h1,h2,h3,h4,h5⟩:=h;exact⟨a',c',l,h1,h2,h3.store hb hg,λx hx=>bA.grown (h4 x hx) hg (λ_ _ _ e hne=>bA.apart (h4 x hx) e hne hb (by decide)),h5⟩
theorem dL.sorted {q:bz} {l:List bn} {n:Nat}(h:dL q (l.map bn.p) n)(hn:n<=1000000):qG l/\(fI (l.map bn.p)).Pairwise bJ:=by
 refine⟨⟨λx hx=>(h.2.1 x.p (List.mem_map.2 ⟨x,hx,rfl⟩)).2,?_⟩,ll.2 (jJ h.1)⟩;have:=h.2.2;rw[bfz]at this;omega
theorem Mq(w:World)(q:bz)(m:Int)(pv:Value)(x:bN)(l:List bn)(hA:bO w pv l)(hG:∀y∈l,bR w y)(hok:dL q (l.map bn.p) 256)(hk:x.key.length<=1000000):
  Calls prog 21 #[.agg q.cells,.agg #[.int .i64 m,pv],.agg x.cells] w (jf w (dR q ⟨m,l.map bn.p⟩ x).1 (dR q ⟨m,l.map bn.p⟩ x).2.1 (dR q ⟨m,l.map bn.p⟩ x).2.2):=by
 obtain⟨ps,hps⟩:=Nm (l.map bn.p);obtain⟨P,hP⟩:=Nm (jf w (dR q ⟨m,ps⟩ x).1 (dR q ⟨m,ps⟩ x).2.1 (dR q ⟨m,ps⟩ x).2.2);rw[<-hps,<-hP];obtain⟨r,hr⟩:=Nm (x.bB);have SF:Hid (r=false->∀wz,Bw w wz->P (.returned (.tuple #[.agg #[.int .i64 0,.slice none 0 0],.slice none 0 0,.int .i64 2])) wz):=Lh (λh wz hB=>by
  rw[hr]at h;rw[hP,dR,if_neg (by rw[h];decide)]
  exact⟨_,_,rfl,yj wz,fw.nil _,hB⟩)
 obtain⟨kd,hkd⟩:=Nm (x.kind);have aj:Hid (r=true->kd=1->∀wz sv ov,gW wz sv (gQ q ⟨m,ps⟩ x).1->fw wz ov (gQ q ⟨m,ps⟩ x).2.1->Bw w wz->P (.returned (.tuple #[sv,ov,.int .i64 (gQ q ⟨m,ps⟩ x).2.2])) wz):=Lh (λh h1 wz sv ov hS hO hB=>by
  rw[hr]at h;rw[hkd]at h1;rw[hP,dR,if_pos h,if_pos h1];exact⟨_,_,rfl,hS,hO,hB⟩)
 have uf:Hid (r=true->kd≠1->∀wz sv ov,gW wz sv (gY q ⟨m,ps⟩ x.time).1->fw wz ov (gY q ⟨m,ps⟩ x.time).2->Bw w wz->P (.returned (.tuple #[sv,ov,.int .i64 0])) wz):=Lh (λh h1 wz sv ov hS hO hB=>by
  rw[hr]at h;rw[hkd]at h1;rw[hP,dR,if_pos h,if_neg h1];exact⟨_,_,rfl,hS,hO,hB⟩)
 have SG:Hid (∀w',Calls prog 37 #[.agg x.cells] w' (bE w' (.bool r))):=by
  rw[hr];exact Lh (λw'=>JB w' x hk)
 have YU:Hid (∀w',Bw w w'->Calls prog 38 #[.agg q.cells,.agg #[.int .i64 m,pv],.agg x.cells] w' (jf w' (gQ q ⟨m,ps⟩ x).1 (gQ q ⟨m,ps⟩ x).2.1 (gQ q ⟨m,ps⟩ x).2.2)):=by
  rw[hps];exact Lh (λw' hB=>Me w' q m pv x l (hA.below hB) (λy hy=>(hG y hy).below hB) hok hk)
 have Yd:Hid (∀w',Bw w w'->Calls prog 39 #[.agg q.cells,.agg #[.int .i64 m,pv],.int .i64 x.time] w' (sO w' (gY q ⟨m,ps⟩ x.time).1 (gY q ⟨m,ps⟩ x.time).2)):=by
  rw[hps];obtain⟨h1,h2⟩:=hok.sorted (by decide)
  exact Lh (λw' hB=>Mj w' q m x.time pv l (hA.below hB) (λy hy=>(hG y hy).below hB) h1 h2)
 obtain⟨sa,sc,hpv,hz1,hz2⟩:=hA.form;clear hz1 hz2;obtain⟨w1,hw1⟩:=Nm ((((w.alloc (.cells q.cells 23)).alloc (.cells #[.int .i64 m,pv] 29)).alloc (.cells x.cells 42)).alloc (.cells #[.int .i64 0,.slice none 0 0] 29));obtain⟨qb,Sm⟩:=Nm (w.heap.size);obtain⟨sb,hsb⟩:=Nm (w.heap.size+1);obtain⟨xb,hxb⟩:=Nm (w.heap.size+2);obtain⟨rb,hrb⟩:=Nm (w.heap.size+3);have H1:Hid (dn w1 qb q/\bT w1 sb m pv/\jy w1 xb x/\bT w1 rb 0 bS/\Bw w w1/\w1.heap.size=w.heap.size+4):=by rw[hw1,Sm,hsb,hxb,hrb];exact Lh (rY w q m pv x)
 have SA:Hid (w.heap.size<=rb):=Lh (by omega)
 clear hP hr hA hG hok hk hps;obtain⟨S1,hS1⟩:=Nm (gQ q ⟨m,ps⟩ x);obtain⟨S2,hS2⟩:=Nm (gY q ⟨m,ps⟩ x.time);rw[<-hS1]at aj YU;rw[<-hS2]at uf Yd;clear hS1 hS2;obtain⟨Q,hQ⟩:=Nm q;rw[<-hQ]at H1;obtain⟨X,hX⟩:=Nm x;rw[<-hX]at H1;obtain⟨kind,size,slide,late,agg,kq⟩:=q;obtain⟨TB,xk,xt,xv⟩:=x;simp only at hkd Yd;subst hkd;have SV:Hid (∀w',dn w' qb Q->D6 w' qb kind size slide late agg kq):=by rw[hQ];exact Lh (λw' h=>h.d6)
 have Vu:Hid (∀w',jy w' xb X->DX w' xb kd xk xt xv):=by rw[hX];exact Lh (λw' h=>h.dx)
 clear hQ hX;obtain⟨n,hn⟩:=Nm (l.length);rw[<-hn]at hpv;clear hn;subst hpv;unfold bz.cells bN.cells at hw1 YU ⊢;unfold bz.cells at Yd;unfold bN.cells at SG;simp only at hw1 SG YU Yd ⊢;have hs1:(w.alloc (.cells #[.int .i64 kind,.int .i64 size,.int .i64 slide,.int .i64 late,.int .i64 agg,.int .i64 kq] 23)).heap.size=w.heap.size+1:=bq w _;have hs2:((w.alloc (.cells #[.int .i64 kind,.int .i64 size,.int .i64 slide,.int .i64 late,.int .i64 agg,.int .i64 kq] 23)).alloc (.cells #[.int .i64 m,.slice sa n sc] 29)).heap.size=w.heap.size+2:=by rw[bq,bq]
 have hs3:(((w.alloc (.cells #[.int .i64 kind,.int .i64 size,.int .i64 slide,.int .i64 late,.int .i64 agg,.int .i64 kq] 23)).alloc (.cells #[.int .i64 m,.slice sa n sc] 29)).alloc (.cells #[.int .i64 kd,Sv xk,.int .i64 xt,.int .i64 xv] 42)).heap.size=w.heap.size+3:=by rw[bq,bq,bq]
 obtain⟨x0,x1,x2,x3⟩:=Vu.out w1 H1.out.2.2.1;go_enter func21,ntmps21;go_upto_region 1 with(fail);rw[<-hw1,<-hrb,<-hxb,<-hsb,<-Sm];clear hw1 hrb hxb hsb Sm hs1 hs2 hs3
 cases r with
 | false=>
  go_wp2_with(fail);refine(SG.out w1).mono ?_;rintro e w2 ⟨rfl,hB⟩;have H2:Hid (bT w2 rb 0 bS/\Bw w w2):=Lh ⟨H1.out.2.2.2.1.below hB,H1.out.2.2.2.2.1.trans (hB.mono H1.out.2.2.2.2.1.size)⟩;clear hB x0 x1 x2 x3;dsimp only;go_upto_region 2 with(fail);refine bg4 ?_;refine dm (by kernel_rfl) 29 _ rfl #[.int .i64 0,.slice none 0 0] (by first | exact jC | (simp only[bgb,bge];exact jC) | kernel_rfl) ?_
  refine bg6 rfl _ _ _ rfl rb #[.int .i64 0,.slice none 0 0] rfl rfl 29 #[.int .i64 0,bS] H2.out.1 bF rfl (cB rfl) ?_;obtain⟨wz,hwz⟩:=Nm (w2.setRow rb #[.int .i64 0,.slice none 0 0]);have HZ:Hid (bT wz rb 0 bS/\P (.returned (.tuple #[.agg #[.int .i64 0,.slice none 0 0],.slice none 0 0,.int .i64 2])) wz):=by
   have hg:w2.grownBy wz (some rb):=by rw[hwz];exact bC _ _ _
   exact Lh ⟨by rw[hwz];exact bT.reset H2.out.1 0 _,SF.out (by trivial) wz (H2.out.2.trans (bG hg SA.out H2.out.2.size))⟩
  rw[<-hwz];clear hwz;go_wp2_with(fail);exact bodyPost_ret (v:=.tuple #[.agg #[.int .i64 0,.slice none 0 0],.slice none 0 0,.int .i64 2]) ((bQ (p:=6) (s:=7) (u:=8) (ty:=29) rfl _ _ rb 29 #[.int .i64 0,.slice none 0 0] (0,0) _ rfl HZ.out.1 underlying29 rfl bF).trans rfl) rfl HZ.out.2
 | true=>
  go_wp2_with(fail);refine(SG.out w1).mono ?_;rintro e w2 ⟨rfl,hB⟩;have H2:Hid (dn w2 qb Q/\bT w2 sb m (.slice sa n sc)/\jy w2 xb X/\bT w2 rb 0 bS/\Bw w w2):=Lh ⟨H1.out.1.below hB,H1.out.2.1.below hB,H1.out.2.2.1.below hB,H1.out.2.2.2.1.below hB,H1.out.2.2.2.2.1.trans (hB.mono H1.out.2.2.2.2.1.size)⟩;clear hB x0 x1 x2 x3;dsimp only;obtain⟨d0,d1,d2,d3,d4,d5⟩:=SV.out w2 H2.out.1;obtain⟨e0,e1⟩:=H2.out.2.1.d2;obtain⟨x0,x1,x2,x3⟩:=Vu.out w2 H2.out.2.2.1;by_cases hk1:kd=1
  ·subst hk1;go_upto_region 4 with(fail);refine bg4 ?_
   iterate 9 go_step
   refine wpList_plain rfl λK' hK'=>?_;go_step;refine(YU.out w2 H2.out.2.2.2.2).mono ?_;rintro e w3 ⟨sv,ov,rfl,⟨pv',l',rfl,hP1,hP2,hP3⟩,hO,hB⟩;refine hK' _ _ ?_;clear hK' d0 d1 d2 d3 d4 d5 e0 e1 x0 x1 x2 x3;obtain⟨m',hm'⟩:=Nm (S1.1.mark);rw[<-hm'];have H3:Hid (bT w3 rb 0 bS/\Bw w w3/\bO w3 pv' l'/\(∀y∈l',bR w3 y)/\S1.1.panes=l'.map bn.p/\fw w3 ov S1.2.1/\m'=S1.1.mark):=Lh ⟨H2.out.2.2.2.1.below hB,H2.out.2.2.2.2.trans (hB.mono H2.out.2.2.2.2.size),hP1,hP2,hP3,hO,hm'⟩;clear hB hP1 hP2 hP3 hO hm'
   iterate 9 go_step
   refine bg6 rfl _ _ _ rfl rb #[.int .i64 m',pv'] rfl rfl 29 #[.int .i64 0,bS] H3.out.1 bF rfl (cB H3.out.2.2.1.one) ?_;obtain⟨wz,hwz⟩:=Nm (w3.setRow rb #[.int .i64 m',pv']);have HZ:Hid (bT wz rb m' pv'/\P (.returned (.tuple #[.agg #[.int .i64 m',pv'],ov,.int .i64 S1.2.2])) wz):=by
    have hg:w3.grownBy wz (some rb):=by rw[hwz];exact bC _ _ _
    obtain⟨j1,j2,j3,j4,j5,j6,j7⟩:=H3.out;exact Lh ⟨by rw[hwz];exact bT.reset j1 m' _,aj.out (by trivial) (by trivial) wz _ ov ⟨pv',l',by rw[j7],j3.store j1 hg,λy hy=>(j4 y hy).kJ j1 hg,j5⟩ (j6.store j1 hg) (j2.trans (bG hg SA.out j2.size))⟩
   rw[<-hwz];clear hwz;go_wp2_with(fail);exact bodyPost_ret (v:=.tuple #[.agg #[.int .i64 m',pv'],ov,.int .i64 S1.2.2]) ((bQ (p:=6) (s:=7) (u:=8) (ty:=29) rfl _ _ rb 29 #[.int .i64 m',pv'] (0,0) _ rfl HZ.out.1 underlying29 rfl bF).trans rfl) rfl HZ.out.2
  have IE:=Lh hk1;have eG:(kd==1)=false:=by simpa using hk1
  go_upto_region 5 with(fail);clear hk1 eG;refine bg4 ?_
  iterate 12 go_step
  refine wpList_plain rfl λK' hK'=>?_;go_step;refine(Yd.out w2 H2.out.2.2.2.2).mono ?_;rintro e w3 ⟨sv,ov,rfl,⟨pv',l',rfl,hP1,hP2,hP3⟩,hO,hB⟩;refine hK' _ _ ?_;clear hK' d0 d1 d2 d3 d4 d5 e0 e1 x0 x1 x2 x3;obtain⟨m',hm'⟩:=Nm (S2.1.mark);rw[<-hm'];have H3:Hid (bT w3 rb 0 bS/\Bw w w3/\bO w3 pv' l'/\(∀y∈l',bR w3 y)/\S2.1.panes=l'.map bn.p/\fw w3 ov S2.2/\m'=S2.1.mark):=Lh ⟨H2.out.2.2.2.1.below hB,H2.out.2.2.2.2.trans (hB.mono H2.out.2.2.2.2.size),hP1,hP2,hP3,hO,hm'⟩;clear hB hP1 hP2 hP3 hO hm'
  iterate 12 go_step
  refine bg6 rfl _ _ _ rfl w3.heap.size #[.int .i64 m',pv'] rfl rfl 29 #[.int .i64 0,bS] (bg5 w3 _) bF rfl (cB H3.out.2.2.1.one) ?_;obtain⟨w4,hw4⟩:=Nm ((w3.alloc (Obj.cells #[.int .i64 0,.slice none 0 0] 29)).setRow w3.heap.size #[.int .i64 m',pv']);obtain⟨tb,htb⟩:=Nm (w3.heap.size);have H4:Hid (bT w4 rb 0 bS/\Bw w w4/\bO w4 pv' l'/\(∀y∈l',bR w4 y)/\S2.1.panes=l'.map bn.p/\fw w4 ov S2.2/\m'=S2.1.mark/\bT w4 tb m' pv'):=by
   obtain⟨k1,k2⟩:=jH w3 m' pv';have e:w4=(w3.alloc (Obj.cells #[.int .i64 0,bS] 29)).setRow w3.heap.size #[.int .i64 m',pv']:=hw4;rw[<-e,<-htb]at k1;rw[<-e]at k2;obtain⟨j1,j2,j3,j4,j5,j6,j7⟩:=H3.out;exact Lh ⟨j1.below k2,Tb j2 k2,j3.below k2,λy hy=>(j4 y hy).below k2,j5,j6.below k2,j7,k1⟩
  rw[<-hw4,<-htb];clear hw4 htb H3;obtain⟨e0,e1⟩:=H4.out.2.2.2.2.2.2.2.d2;go_upto_region 6 with(fail);refine bg4 ?_
  iterate 6 go_step
  refine bg6 rfl _ _ _ rfl rb #[.int .i64 m',pv'] rfl rfl 29 #[.int .i64 0,bS] H4.out.1 bF rfl (cB H4.out.2.2.1.one) ?_;obtain⟨wz,hwz⟩:=Nm (w4.setRow rb #[.int .i64 m',pv']);have HZ:Hid (bT wz rb m' pv'/\P (.returned (.tuple #[.agg #[.int .i64 m',pv'],ov,.int .i64 0])) wz):=by
   have hg:w4.grownBy wz (some rb):=by rw[hwz];exact bC _ _ _
   obtain⟨j1,j2,j3,j4,j5,j6,j7,_⟩:=H4.out;exact Lh ⟨by rw[hwz];exact bT.reset j1 m' _,uf.out (by trivial) IE.out wz _ ov ⟨pv',l',by rw[j7],j3.store j1 hg,λy hy=>(j4 y hy).kJ j1 hg,j5⟩ (j6.store j1 hg) (j2.trans (bG hg SA.out j2.size))⟩
  rw[<-hwz];clear hwz e0 e1;go_wp2_with(fail);exact bodyPost_ret (v:=.tuple #[.agg #[.int .i64 m',pv'],ov,.int .i64 0]) ((bQ (p:=6) (s:=7) (u:=8) (ty:=29) rfl _ _ rb 29 #[.int .i64 m',pv'] (0,0) _ rfl HZ.out.1 underlying29 rfl bF).trans rfl) rfl HZ.out.2
end Go.Proofs.YtjeeghafachebaaGreat
