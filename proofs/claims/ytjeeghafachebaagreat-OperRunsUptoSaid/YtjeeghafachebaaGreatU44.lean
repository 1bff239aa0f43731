/-
  44.
-/
import Derived.Test.YtjeeghafachebaaGreatU41
import Derived.Test.YtjeeghafachebaaGreatU42
import Derived.Test.YtjeeghafachebaaGreatU43
set_option maxRecDepth 100000
set_option maxHeartbeats 16000000
namespace Go.Proofs.YtjeeghafachebaaGreat
open Go Go.RowKit Go.Proofs.Tryz
def nX(ns:List bH)(t:Int)(i:Nat)(b:Int):Prop:=
 (b=-1/\∀j<i,∀p,ns[j]? =some p->fV t p=false)∨
  ∃k:Nat,b=(k:Int)/\k<i/\∃x,ns[k]? =some x/\fV t x=true/\∀j<i,∀p,ns[j]? =some p->fV t p=true->p.w=x.w∨nW x.w p.w
theorem nX.zero(ns:List bH)(t:Int):nX ns t 0 (-1):=.inl ⟨rfl,λ_ h=>absurd h (Nat.not_lt_zero _)⟩
theorem nX.skip {ns:List bH} {t:Int} {i:Nat} {b:Int} {y:bH}(h:nX ns t i b)(hy:ns[i]? =some y)(hf:fV t y=false):nX ns t (i+1) b:=by
 rcases h with⟨h1,h2⟩ | ⟨k,h1,h2,x,h3,h4,h5⟩
 ·refine .inl ⟨h1,λj hj p hp=>?_⟩;rcases bg1 j i with hji | hji
  ·exact h2 j hji p hp
  obtain rfl:j=i:=by omega
  rw[hy]at hp;cases hp
  exact hf
 refine .inr ⟨k,h1,by omega,x,h3,h4,λj hj p hp hfp=>?_⟩
 rcases bg1 j i with hji | hji
 ·exact h5 j hji p hp hfp
 obtain rfl:j=i:=by omega
 rw[hy]at hp;cases hp
 rw[hf]at hfp;cases hfp
theorem nX.keep {ns:List bH} {t:Int} {i k:Nat} {x y:bH}(h:nX ns t i (k:Int))(hx:ns[k]? =some x)(hy:ns[i]? =some y)(hc:¬ve y.w x.w<0):nX ns t (i+1) (k:Int):=by
 rcases h with⟨h1,h2⟩ | ⟨k',h1,h2,x',h3,h4,h5⟩
 ·omega
 obtain rfl:k=k':=by omega
 rw[hx]at h3;cases h3
 refine .inr ⟨k,rfl,by omega,x,hx,h4,λj hj p hp hfp=>?_⟩
 rcases bg1 j i with hji | hji
 ·exact h5 j hji p hp hfp
 obtain rfl:j=i:=by omega
 rw[hy]at hp;cases hp
 by_cases e:y.w=x.w
 ·exact .inl e
 rcases qJ e with hb | hb
 ·exact absurd ((kX _ _).2 hb) hc
 exact .inr hb
theorem nX.first {ns:List bH} {t:Int} {i:Nat} {y:bH}(h:nX ns t i (-1))(hy:ns[i]? =some y)(hf:fV t y=true):nX ns t (i+1) (i:Int):=by
 rcases h with⟨h1,h2⟩ | ⟨k',h1,h2,x',h3,h4,h5⟩
 ·refine .inr ⟨i,rfl,by omega,y,hy,hf,λj hj p hp hfp=>?_⟩
  rcases bg1 j i with hji | hji
  ·rw[h2 j hji p hp]at hfp;cases hfp
  obtain rfl:j=i:=by omega
  rw[hy]at hp;cases hp
  exact .inl rfl
 omega
theorem nX.less {ns:List bH} {t:Int} {i k:Nat} {x y:bH}(h:nX ns t i (k:Int))(hx:ns[k]? =some x)(hy:ns[i]? =some y)(hf:fV t y=true)(hc:ve y.w x.w<0):nX ns t (i+1) (i:Int):=by
 rcases h with⟨h1,h2⟩ | ⟨k',h1,h2,x',h3,h4,h5⟩
 ·omega
 obtain rfl:k=k':=by omega
 rw[hx]at h3;cases h3
 have hb:=(kX _ _).1 hc;refine .inr ⟨i,rfl,by omega,y,hy,hf,λj hj p hp hfp=>?_⟩
 rcases bg1 j i with hji | hji
 ·rcases h5 j hji p hp hfp with e | hb2
  ·right
   rw[e];exact hb
  exact .inr (hb.trans hb2)
 obtain rfl:j=i:=by omega
 rw[hy]at hp;cases hp
 exact .inl rfl
theorem nX.cases {ns:List bH} {t:Int} {i:Nat} {b:Int}(h:nX ns t i b):b=-1∨∃k:Nat,b=(k:Int)/\k<i:=by
 rcases h with⟨h1,_⟩ | ⟨k,h1,h2,_⟩
 ·exact .inl h1
 exact .inr ⟨k,h1,h2⟩
theorem DL.fire {q:bz} {t:Int} {ps:List bH} {os:List dB} {k:Nat} {x:bH}(h:DL q t ps os)(hn:(ps.map bH.w).Nodup)(hb:nX (ps.map (jd (os.map dB.w))) t ps.length (k:Int))(hx:ps[k]? =some x):
  DL q t ps (os++[kK q x])/\(ps.map (jd (os.map dB.w))).set k ⟨x.w,x.a,1⟩=ps.map (jd ((os++[kK q x]).map dB.w))/\jd (os.map dB.w) x=x:=by
 rcases hb with⟨h1,_⟩ | ⟨k',h1,h2,y,h3,h4,h5⟩
 ·omega
 obtain rfl:k=k':=by omega
 rw[bgf,hx]at h3;cases h3
 have hl:mI t (os.map dB.w) x=true:=by rw[<-qQ];exact h4
 have hmem:x∈ps:=bf3 hx;have hnot:x.w ∉ os.map dB.w:=by
  unfold mI at hl;rw[bf8]at hl;simpa using hl.2
 refine⟨h.step hn hmem hl (λp hp hlp=>?_),?_,by unfold jd;rw[if_neg hnot]⟩
 ·obtain⟨j,hj,rfl⟩:=List.getElem_of_mem hp;have h6:=h5 j hj (jd (os.map dB.w) ps[j]) (by rw[bgf,bfs hj];rfl) (by rw[qQ];exact hlp)
  rw[(wJ _ _).1,(wJ _ _).1]at h6;exact h6
 apply List.ext_getElem?;intro j;rw[List.getElem?_set,bgf,bgf,bfz];have hkl:k<ps.length:=h2;have Yx:(kK q x).w=x.w:=rfl;by_cases hkj:k=j
 ·subst hkj;rw[if_pos rfl,if_pos hkl,hx];show some _=some _
  congr 1
  unfold jd;rw[if_pos (by rw[bgl];simp[Yx])]
 rw[if_neg hkj]
 cases hj:ps[j]? with
 | none=>rfl
 | some y=>
  show some _=some _
  congr 1
  have hne:y.w≠x.w:=λe=>by
   have hjl:j<ps.length:=(List.getElem?_eq_some_iff.1 hj).1;have e1:ps[j]=y:=(List.getElem?_eq_some_iff.1 hj).2;have e2:ps[k]=x:=(List.getElem?_eq_some_iff.1 hx).2;have:=List.pairwise_iff_getElem.1 hn;rcases bg1 j k with hjk | hjk
   ·exact this j k (by simpa using hjl) (by simpa using hkl) hjk (by simp[e1,e2,e])
   exact this k j (by simpa using hkl) (by simpa using hjl) (by omega) (by simp[e1,e2,e])
  unfold jd;by_cases hm:y.w∈os.map dB.w
  ·rw[if_pos hm,if_pos (by rw[bgl,bgg];exact .inl hm)]
  rw[if_neg hm,if_neg (by rw[bgl,bgg,not_or];exact⟨hm,by simp[Yx,hne]⟩)]
theorem DL.end {q:bz} {t:Int} {ps:List bH} {os:List dB}(h:DL q t ps os)(hn:(ps.map bH.w).Nodup)(hb:nX (ps.map (jd (os.map dB.w))) t ps.length (-1)):
  os=pU (gZ q t ps)/\ps.map (jd (os.map dB.w))=ps.map (jc t):=by
 rcases hb with⟨_,h2⟩ | ⟨k,h1,_⟩
 ·refine h.done hn λp hp=>?_;obtain⟨j,hj,rfl⟩:=List.getElem_of_mem hp;have:=h2 j hj (jd (os.map dB.w) ps[j]) (by rw[bgf,bfs hj];rfl)
  rw[qQ]at this;exact this
 omega
theorem DL.short {q:bz} {t:Int} {ps:List bH} {os:List dB}(h:DL q t ps os):os.length<=ps.length:=by
 have h1:=h.perm.length_eq;rw[bft]at h1;have h2:(gZ q t ps).length<=ps.length:=by
  unfold gZ;rw[bfz];exact List.length_filter_le _ _
 omega
theorem wC:∀(l:List bn) (i:Nat) (x:bn) (r:Int),l[i]? =some x->(bP l).set (i*8+7) (.int .i64 r)=bP (l.set i ⟨⟨x.p.w,x.p.a,r⟩,x.tv,x.z,x.ht,x.hz⟩)
 | [],_,_,_,h=>by simp at h
 | y::l,0,x,r,h=>by
  simp only[bgp,bf5]at h;subst h;rfl
 | y::l,i+1,x,r,h=>by
  have ih:=wC l i x r (by simpa using h)
  have hy:y.cells.toList.length=8:=rfl;rw[mM,bfu,mM,List.set_append_right _ _ (by omega),hy,show(i+1)*8+7-8=i*8+7 by omega,ih]
theorem bY.Kl {w:World} {base g c n:Nat} {l:List bn}(h:bY w base (.slice (some ⟨g,0,none⟩) n c) l)(hn:n=l.length) {i:Nat} {x:bn}(hx:l[i]? =some x)(r:Int):
  bY (w.setCell ⟨g,i*8+7,none⟩ (.int .i64 r)) base (.slice (some ⟨g,0,none⟩) n c) (l.set i ⟨⟨x.p.w,x.p.a,r⟩,x.tv,x.z,x.ht,x.hz⟩):=by
 subst hn;unfold bY;rw[List.length_set,<-wC l i x r hx];exact(World.ownsRow.stored h _ _).1
def QA(B:Nat)(ov:Value)(ol:List bM)(R:World->Prop)(k:Nat)(w:World):Prop:=R w/\B<=w.heap.size/\(k=0->fe w B ov ol/\∀y∈ol,dO w y)
theorem QA.below {B:Nat} {ov:Value} {ol:List bM} {R:World->Prop} {k:Nat} {w w':World}(h:QA B ov ol R k w)(hR:∀w w',Bw w w'->R w->R w')(hB:Bw w w'):QA B ov ol R k w':=
 ⟨hR _ _ hB h.1,bgn h.2.1 hB.size,λe=>⟨(h.2.2 e).1.far hB,λy hy=>((h.2.2 e).2 y hy).below hB⟩⟩
def Q6(B:Nat)(ol:List bM)(o:dB)(nV nB nS nA nE:Nat):List (Nat × (Nat->World->Value->Prop)):=
 [(nV,λ_ w v=>bA w v o.v),(nB,λ_ w v=>∃y:bM,v=.agg y.cells/\y.o=o/\dO w y),(nS,λk w v=>k=0->∃(y:bM) (g:Nat),v=.slice (some ⟨g,0,none⟩) 1 1/\y.o=o/\jN w g y/\dO w y),
  (nA,λk w v=>1<=k/\∃y:bM,y.o=o/\fe w B v (ol++[y])/\∀z∈ol++[y],dO w z),(nE,λk w v=>1<=k/\∃y:bM,y.o=o/\fe w B v (ol++[y])/\∀z∈ol++[y],dO w z)]
theorem M7 {B:Nat} {ol:List bM} {o:dB} {nV nB nS nA nE:Nat}:∀p∈Q6 B ol o nV nB nS nA nE,∀k w w' v,Bw w w'->p.2 k w v->p.2 k w' v:=by
 intro p hp k w w' v hB h;simp only[Q6,bf2,bf9,or_false]at hp;rcases hp with rfl | rfl | rfl | rfl | rfl
 ·exact bA.below h hB
 ·obtain⟨y,h1,h2,h3⟩:=h;exact⟨y,h1,h2,h3.below hB⟩
 ·intro e;obtain⟨y,g,h1,h2,h3,h4⟩:=h e;exact⟨y,g,h1,h2,h3.below hB,h4.below hB⟩
 ·obtain⟨h0,y,h1,h2,h3⟩:=h;exact⟨h0,y,h1,h2.far hB,λz hz=>(h3 z hz).below hB⟩
 obtain⟨h0,y,h1,h2,h3⟩:=h;exact⟨h0,y,h1,h2.far hB,λz hz=>(h3 z hz).below hB⟩
theorem F5 {B:Nat} {ov:Value} {ol:List bM} {o:dB} {nV nB nS nA nE:Nat} {w w':World} {l:List Oper} {a:Act}(hO:fe w B ov ol)(hg:w.grownBy w' ov.ownBlock):
  ∀p∈Q6 B ol o nV nB nS nA nE,nA=p.1∨∀d,dQ l p.1=some d->p.2 0 w (a.eval (.tmp d))->p.2 1 w' (a.eval (.tmp d)):=by
 intro p hp;simp only[Q6,bf2,bf9,or_false]at hp;rcases hp with rfl | rfl | rfl | rfl | rfl
 ·exact .inr λd _ h=>bA.ww h hO hg
 ·exact .inr λd _ ⟨y,h1,h2,h3⟩=>⟨y,h1,h2,bA.ww h3 hO hg⟩
 ·exact .inr λd _ _ e=>absurd e (by decide)
 ·exact .inl rfl
 exact .inr λd _ h=>absurd h.1 (by decide)
theorem yR {q:bz} {x:bg} {mark:Int}(hq:q.bB=true)(hx:x.bB=true)(w:World):Calls prog 71 #[.agg q.cells,.agg x.cells,.int .i64 mark] w (bE w (.bool (gy q x mark))):=by
 have hc:=cu hx;have hb:=tT hq;have h:=BM w q x mark (by omega) (by omega)
 have e:gy q x mark=decide (x.hi+q.late<=mark):=by
  unfold gy;rw[hq,hx];rfl
 rw[e];exact h
theorem yV {w:World} {q:bz} {x:bn}(hG:bR w x)(hr:x.p.a.bB q=true):Calls prog 82 #[.agg q.cells,.agg (bI x.p.a.n x.p.a.a x.tv x.z)] w (ni w (dV q x.p.a)):=by
 have hf:=fM hr;have h:=Ki w q x.p.a x.tv x.z hG.1 hG.2 hf.2.1 hf.2.2.1;rw[FN hr]at h;exact h
def qj(w:World)(qb sb rb B:Nat)(q:bz)(m:Int)(pv lv:Value)(nl:List bn)(wr:World):Prop:=
 dn wr qb q/\bT wr sb m pv/\bT wr rb 0 bS/\bY wr B lv nl/\(∀x∈nl,bR wr x)/\Bw w wr
theorem qj.below {w:World} {qb sb rb B:Nat} {q:bz} {m:Int} {pv lv:Value} {nl:List bn} {wr wz:World}(h:qj w qb sb rb B q m pv lv nl wr)(hB:Bw wr wz):qj w qb sb rb B q m pv lv nl wz:=by
 obtain⟨h1,h2,h3,h4,h5,h6⟩:=h;exact⟨h1.below hB,h2.below hB,h3.below hB,h4.far hB,λx hx=>(h5 x hx).below hB,Tb h6 hB⟩
theorem qj.ww {w:World} {qb sb rb B:Nat} {q:bz} {m:Int} {pv lv ov:Value} {nl:List bn} {ol:List bM} {wr wz:World}(hb:w.heap.size<=B/\qb<B/\sb<B/\rb<B)(h:qj w qb sb rb B q m pv lv nl wr)(ho:fe wr B ov ol)(hg:wr.grownBy wz ov.ownBlock):qj w qb sb rb B q m pv lv nl wz:=by
 obtain⟨h1,h2,h3,h4,h5,h6⟩:=h;have hne:∀b,b<B->some b≠ov.ownBlock:=λb hb e=>by have:=ho.lt e.symm;omega
 exact⟨dz hg h1 (hne _ hb.2.1),dz hg h2 (hne _ hb.2.2.1),dz hg h3 (hne _ hb.2.2.2),h4.kept hg (mU h4 ho),λx hx=>⟨bA.ww (h5 x hx).1 ho hg,(h5 x hx).2⟩,h6.trans ⟨hg.os,hg.tape,hg.output,hg.size,λk hk=>hg.block k (by have:=h6.size;omega) (hne k (by omega))⟩⟩
theorem bY.Pn {w:World} {B g n c:Nat} {l:List bn}(h:bY w B (.slice (some ⟨g,0,none⟩) n c) l):B<=g/\∃cs,w.heap[g]? =some (.cells cs 55 (0,0)):=by
 refine⟨(h.lt rfl).1,?_⟩;rcases h.2 with⟨k1,_⟩ | ⟨g',c',cur,k1,_,k2,_⟩
 ·cases k1
 have e:g=g':=by injection k1 with e;injection e with e;injection e
 rw[e];exact⟨cur,k2⟩
theorem qj.fire {w:World} {qb sb rb B g n c:Nat} {q:bz} {m:Int} {pv:Value} {nl:List bn} {wr:World}(hb:w.heap.size<=B/\qb<B/\sb<B/\rb<B)(h:qj w qb sb rb B q m pv (.slice (some ⟨g,0,none⟩) n c) nl wr)(hn:n=nl.length) {k:Nat} {x:bn}(hx:nl[k]? =some x):
  qj w qb sb rb B q m pv (.slice (some ⟨g,0,none⟩) n c) (nl.set k ⟨⟨x.p.w,x.p.a,1⟩,x.tv,x.z,x.ht,x.hz⟩) (wr.setCell ⟨g,k*8+7,none⟩ (.int .i64 1)):=by
 obtain⟨h1,h2,h3,h4,h5,h6⟩:=h;have hg:=bL wr g (k*8+7) (.int .i64 1);obtain⟨hB,cs,hrow⟩:=h4.Pn;have hgood:∀z∈nl,bR (wr.setCell ⟨g,k*8+7,none⟩ (.int .i64 1)) z:=λz hz=>⟨(h5 z hz).1.grown hg (λ_ _ _ e hne=>(h5 z hz).1.apart e hne hrow (by decide)),(h5 z hz).2⟩
 refine⟨dz hg h1 (by simp;omega),dz hg h2 (by simp;omega),dz hg h3 (by simp;omega),h4.Kl hn hx 1,λz hz=>?_,h6.trans (bG hg (by omega) h6.size)⟩
 rcases List.mem_or_eq_of_mem_set hz with hz | rfl
 ·exact hgood z hz
 have:=hgood x (bf3 hx);exact⟨this.1,this.2⟩
theorem Mr {w:World} {B g n c k:Nat} {nl:List bn} {ov:Value} {ol:List bM}(h:bY w B (.slice (some ⟨g,0,none⟩) n c) nl)(ho:fe w B ov ol/\∀y∈ol,dO w y):fe (w.setCell ⟨g,k,none⟩ (.int .i64 1)) B ov ol/\∀y∈ol,dO (w.setCell ⟨g,k,none⟩ (.int .i64 1)) y:=by
 have hg:=bL w g k (.int .i64 1);obtain⟨_,cs,hrow⟩:=h.Pn;exact⟨ho.1.kept hg (lQ h ho.1),λy hy=>bA.grown (ho.2 y hy) hg (λ_ _ _ e hne=>bA.apart (ho.2 y hy) e hne hrow (by decide))⟩
def Nt(w:World)(qb sb rb B:Nat)(q:bz)(m t:Int)(pv:Value)(ps:List bH)(lv:Value)(s9:Value)(wr:World):Prop:=
 ∃nl ol,nl.length=ps.length/\DL q t ps (ol.map bM.o)/\nl.map bn.p=ps.map (jd ((ol.map bM.o).map dB.w))/\qj w qb sb rb B q m pv lv nl wr/\fe wr B s9 ol/\∀y∈ol,dO wr y
def Ns(w:World)(ns:List bH)(t:Int)(n:Nat)(s10 s27:Value)(wr:World):Prop:=∃i:Nat,i<=n/\s27=.int .i64 (i:Int)/\∃b:Int,s10=.int .i64 b/\nX ns t i b/\Bw w wr
def Nr(w:World)(q:bz)(t:Int)(nl:List bn)(B:Nat)(s13 s83:Value)(wr:World):Prop:=∃i:Nat,i<=nl.length/\s83=.int .i64 (i:Int)/\cK wr B s13 (((nl.take i).filter λx=>gy q x.p.w t).map λx=>x.p.w)/\Bw w wr
theorem NT {q:bz} {t:Int} {ns:List bH}:yN ((ns.filter λp=>gy q p.w t).map bH.w) ns=ns.filter λp=> !gy q p.w t:=by
 unfold yN;apply List.filter_congr;intro p hp
 congr 1
 rw[Bool.eq_iff_iff,bf0,bgj];constructor
 ·rintro⟨x,hx,e⟩;rw[<-e];exact(List.mem_filter.1 hx).2
 exact λh=>⟨p,List.mem_filter.2 ⟨hp,h⟩,rfl⟩
theorem qM(t:Int)(s:Option Addr)(n c:Nat):prog.built 29 [(0,.int .i64 t),(1,.slice s n c)]=some #[.int .i64 t,.slice s n c]:=by kernel_rfl
theorem Ka(w:World)(q:bz)(m t:Int)(pv:Value)(l:List bn)(hA:bO w pv l)(hG:∀x∈l,bR w x)(hR:fQ q ⟨m,l.map bn.p⟩=true):
  Calls prog 43 #[.agg q.cells,.agg #[.int .i64 m,pv],.int .i64 t] w (sO w (gY q ⟨m,l.map bn.p⟩ t).1 (gY q ⟨m,l.map bn.p⟩ t).2):=by
 have mixed:prog.follows .mixedOrders=true:=by kernel_rfl
 obtain⟨ps,hps⟩:=Nm (l.map bn.p);rw[<-hps]at hR ⊢;obtain⟨hq,_,TQ,hall,hpl⟩:=kI.1 hR;simp only at TQ hall hpl;have hsrt:=ll.2 (jJ hpl);have hnd:(ps.map bH.w).Nodup:=hsrt.imp λh e=>by rw[e]at h;exact h.irrefl
 obtain⟨P,hP⟩:=Nm (sO w (gY q ⟨m,ps⟩ t).1 (gY q ⟨m,ps⟩ t).2);rw[<-hP];have HSame:Hid (t<=m->∀wz,bO wz pv l->(∀x∈l,bR wz x)->Bw w wz->P (.returned (.tuple #[.agg #[.int .i64 m,pv],.slice none 0 0])) wz):=Lh (λh wz h1 h2 hB=>by
  rw[hP,gY,if_pos h];exact⟨_,_,rfl,⟨pv,l,rfl,h1,h2,hps⟩,fw.nil _,hB⟩)
 have Sl:Hid (¬t<=m->∀wz bv bl ov,bO wz bv bl->(∀x∈bl,bR wz x)->bl.map bn.p=kT q t ps->fw wz ov (pU (gZ q t ps))->Bw w wz->P (.returned (.tuple #[.agg #[.int .i64 t,bv],ov])) wz):=Lh (λh wz bv bl ov h1 h2 h3 h4 hB=>by
  rw[hP,gY,if_neg h];exact⟨_,_,rfl,⟨bv,bl,rfl,h1,h2,h3.symm⟩,h4,hB⟩)
 obtain⟨sa,sc,hpv,hcap,hAt⟩:=hA.form;obtain⟨n,hN⟩:=Nm (l.length);obtain⟨w1,hw1⟩:=Nm (((w.alloc (.cells q.cells 23)).alloc (.cells #[.int .i64 m,pv] 29)).alloc (.cells #[.int .i64 0,.slice none 0 0] 29));obtain⟨qb,Sm⟩:=Nm (w.heap.size);obtain⟨sb,hsb⟩:=Nm (w.heap.size+1);obtain⟨rb,hrb⟩:=Nm (w.heap.size+2);obtain⟨B,uN⟩:=Nm (w1.heap.size);have H1:Hid (dn w1 qb q/\bT w1 sb m pv/\bT w1 rb 0 bS/\Bw w w1/\w1.heap.size=w.heap.size+3):=by rw[hw1,Sm,hsb,hrb];exact Lh (vZ w q m pv)
 have SA:Hid ((w.heap.size<=B/\qb<B/\sb<B/\rb<B)/\w.heap.size<=rb/\w1.heap.size=B):=Lh ⟨by have:=H1.out.2.2.2.2;omega,by omega,uN.symm⟩
 have HA:Hid (bO w pv l/\dI w sa l/\(∀x∈l,bR w x)):=Lh ⟨hA,hAt,hG⟩;have Tx:n<=256:=by rw[hN];rw[hps,bfz]at TQ;exact TQ
 have HN:Hid (n=l.length/\ps.length=n/\ps=l.map bn.p):=Lh ⟨hN,by rw[hps,bfz,hN],hps⟩
 have Ye:Hid (q.bB=true/\(ps.map bH.w).Nodup/\∀p∈ps,p.w.bB=true/\p.a.bB q=true):=by
  refine Lh ⟨hq,hnd,λp hp=>?_⟩;have h:=(hall p hp).1;unfold jY at h;simp only[bf8,bf0]at h;exact⟨h.1,h.2.2.2⟩
 rw[<-hN]at hpv;obtain⟨VQ,SS⟩:=Nm (Value.agg q.cells);have iT:Hid (∀w' (x:bn),bR w' x->x.p.a.bB q=true->Calls prog 82 #[VQ,.agg (bI x.p.a.n x.p.a.a x.tv x.z)] w' (ni w' (dV q x.p.a))):=by
  rw[SS];exact Lh (λw' x h hn=>yV h hn)
 have V7:Hid (∀w' (x:bg),x.bB=true->Calls prog 71 #[VQ,.agg x.cells,.int .i64 t] w' (bE w' (.bool (gy q x t)))):=by
  rw[SS];exact Lh (λw' x h=>yR hq h w')
 clear hP hA hG hN hcap hAt hnd hps hq TQ hall hpl hsrt hR uN;subst hpv;obtain⟨Q,hQ⟩:=Nm q;rw[<-hQ]at H1 iT V7 Sl Ye;obtain⟨kind,size,slide,late,agg,kq⟩:=q;have VF:Hid (VQ=.agg #[.int .i64 kind,.int .i64 size,.int .i64 slide,.int .i64 late,.int .i64 agg,.int .i64 kq]):=Lh SS;have SV:Hid (∀w',dn w' qb Q->D6 w' qb kind size slide late agg kq):=by rw[hQ];exact Lh (λw' h=>h.d6)
 clear SS hQ;unfold bz.cells at hw1 ⊢;simp only at hw1;have hs1:(w.alloc (.cells #[.int .i64 kind,.int .i64 size,.int .i64 slide,.int .i64 late,.int .i64 agg,.int .i64 kq] 23)).heap.size=w.heap.size+1:=bq w _;have hs2:((w.alloc (.cells #[.int .i64 kind,.int .i64 size,.int .i64 slide,.int .i64 late,.int .i64 agg,.int .i64 kq] 23)).alloc (.cells #[.int .i64 m,.slice sa n sc] 29)).heap.size=w.heap.size+2:=by rw[bq,bq]
 obtain⟨e0,e1⟩:=H1.out.2.1.d2;by_cases Xt:t<=m
 ·have HT:=Lh Xt;have hd:decide (t<=m)=true:=bfr Xt;clear Xt;go_enter func43,ntmps43;go_upto_region 1 with(fail);rw[<-hw1,<-hrb,<-hsb,<-Sm];clear hw1 hrb hsb Sm hs1 hs2;go_upto_region 2 with(fail);refine bg4 ?_
  iterate 3 go_step
  refine bg6 rfl _ _ _ rfl rb #[.int .i64 m,.slice sa n sc] rfl rfl 29 #[.int .i64 0,bS] H1.out.2.2.1 bF rfl (cB rfl) ?_;obtain⟨w9,SI⟩:=Nm (w1.setRow rb #[.int .i64 m,.slice sa n sc]);have H9:Hid (bT w9 rb m (.slice sa n sc)/\P (.returned (.tuple #[.agg #[.int .i64 m,.slice sa n sc],.slice none 0 0])) w9):=by
   have hg:w1.grownBy w9 (some rb):=by rw[SI];exact bC _ _ _
   have hb:=SA.out;have hB:=H1.out.2.2.2.1.trans (bG hg (by omega) H1.out.2.2.2.1.size)
   exact Lh ⟨by rw[SI];exact H1.out.2.2.1.reset m _,HSame.out HT.out w9 (HA.out.1.below hB) (λx hx=>(HA.out.2.2 x hx).below hB) hB⟩
  rw[<-SI];clear SI e0 e1 hd;go_wp2_with(fail);exact bodyPost_ret (v:=.tuple #[.agg #[.int .i64 m,.slice sa n sc],.slice none 0 0]) ((bK (p:=6) (u:=7) (ty:=29) rfl _ _ rb 29 #[.int .i64 m,.slice sa n sc] (0,0) _ rfl H9.out.1 underlying29 rfl bF).trans rfl) rfl H9.out.2
 have HT:=Lh Xt;have hd:decide (t<=m)=false:=bfq Xt;clear Xt HSame;go_enter func43,ntmps43;go_upto_region 1 with(fail);rw[<-hw1,<-hrb,<-hsb,<-Sm];clear hw1 hrb hsb Sm hs1 hs2;go_upto_region 3 with(fail);clear hd e0 e1;refine bg4 ?_
 iterate 3 go_step
 obtain⟨w2,hw2⟩:=Nm (w1.alloc (.cells #[] 55));obtain⟨gb,hgb⟩:=Nm (w1.heap.size);have H2:Hid (bY w2 B (.slice (some ⟨gb,0,none⟩) 0 0) []/\Bw w1 w2):=by
  rw[hw2,hgb];exact Lh ⟨bY.P8 w1 _ (by have:=SA.out.2.2;omega),(Below.refl _ w1).alloc (bfx _) _⟩
 rw[<-hw2,<-hgb];clear hw2 hgb;obtain⟨e0,e1⟩:=(H1.out.2.1.below H2.out.2).d2
 iterate 6 go_step
 refine wpList_plain rfl λK' hK'=>?_;refine KC (.tmp 21) (.tmp 23) rfl B (.slice (some ⟨gb,0,none⟩) 0 0) [] l rfl H2.out.1 sa sc n HN.out.1 rfl (HA.out.2.1.below (H1.out.2.2.2.1.trans (H2.out.2.mono H1.out.2.2.2.1.size))) (by have:=HN.out.1;simp;omega) (by have:=SA.out.2.2;have:=H2.out.2.size;omega) ?_
 intro v3 w3 g1 g2 g3;refine hK' _ _ ?_;have H3:Hid (qj w qb sb rb B Q m (.slice sa n sc) v3 l w3):=by
  have Zb:=H2.out.2.trans (bY.below H2.out.1 g2 (by have:=SA.out.2.2;have:=H2.out.2.size;omega) |>.mono (by have:=SA.out.2.2;omega))
  obtain⟨j1,j2,j3,j4,_⟩:=H1.out;have hBw:=Tb j4 Zb;exact Lh ⟨j1.below Zb,j2.below Zb,j3.below Zb,by simpa using g1,λx hx=>(HA.out.2.2 x hx).below hBw,hBw⟩
 obtain⟨va,vc,hv3,_,_⟩:=H3.out.2.2.2.1.form;rw[<-HN.out.1]at hv3;subst hv3;clear g1 g2 g3 e0 e1 hK' H2 H1;go_wp2_with(fail);go_loopw[9] (Nt w qb sb rb B Q m t (.slice sa n sc) ps (.slice va n vc)) (λv _=>n+1-JN v)
 case atStart=>
  refine⟨l,[],by rw[HN.out.2.1,HN.out.1],?_,?_,H3.out,fe.nil _ _,λy hy=>by simp at hy⟩
  ·exact DL.begin Q t ps
  rw[HN.out.2.2];show _=List.map (jd []) _;refine(List.map_id' _).symm.trans (List.map_congr_left λp _=>?_);unfold jd;rw[if_neg (by simp)]
 case round=>
  clear H3;obtain⟨nl,ol,hnl,uU,hnm,hRk,ZM,Zf⟩:=hrel;obtain⟨oa,oc,hov,_,_⟩:=ZM.form;obtain⟨ov,WZ⟩:=Nm u9;rw[<-WZ]at hov ZM;rw[<-WZ];have HO:Hid (nl.length=n/\DL Q t ps (ol.map bM.o)/\nl.map bn.p=ps.map (jd ((ol.map bM.o).map dB.w))/\fe wr B ov ol/\(∀y∈ol,dO wr y)/\ov=.slice oa ol.length oc/\(∀x∈nl,x.p.w.bB=true/\x.p.a.bB Q=true)):=by
   refine Lh ⟨by rw[hnl,HN.out.2.1],uU,hnm,ZM,Zf,hov,λx hx=>?_⟩
   have hm:x.p∈nl.map bn.p:=List.mem_map.2 ⟨x,hx,rfl⟩;rw[hnm]at hm;obtain⟨p,hp,e⟩:=List.mem_map.1 hm;rw[<-e,(wJ _ _).1,(wJ _ _).2];exact Ye.out.2.2 p hp
  have HR:=Lh hRk;clear hnl uU hnm hRk ZM Zf hov WZ;obtain⟨wo,hwo⟩:=Nm wr;rw[<-hwo]at HO HR;rw[<-hwo];clear hwo;go_wp2_with(fail);go_loopw[10,27] (Ns wo (nl.map bn.p) t n) (λ_ i _=>n-(intOf i).toNat)
  case atStart=>exact⟨0,bgi _,rfl,-1,rfl,nX.zero _ _,Br⟩
  case round=>
   obtain⟨i,hi,rfl,b,rfl,eu,hB⟩:=hrel;have HI:=Lh (bfy eu hB);by_cases hlt:i<n
   ·have hi0:(0:Int)<=(i:Int)/\(i:Int)<(n:Int):=by omega
    obtain⟨g,c',hsh,_⟩:=HR.out.2.2.2.1.shape.resolve_left (λh=>by have:=HO.out.1;rw[h.2]at this;simp at this;omega)
    have hva:va=some ⟨g,0,none⟩:=by injection hsh
    clear hsh;subst hva;obtain⟨x,hx⟩:∃x,nl[i]? =some x:=⟨_,bfs (by rw[HO.out.1];exact hlt)⟩
    have HX:Hid (nl[i]? =some x/\i<n):=Lh ⟨hx,hlt⟩;have YO:=HO.out.2.2.2.2.2.2 x (bf3 hx);have Tp:=Lh (HR.out.below hB);have c0:wr.cell? ⟨g,i*8,none⟩=some (Sv x.p.w.key):=Tp.out.2.2.2.1.cell HO.out.1.symm hx (j:=0) rfl;have c1:wr.cell? ⟨g,i*8+1,none⟩=some (.int .i64 x.p.w.lo):=Tp.out.2.2.2.1.cell HO.out.1.symm hx (j:=1) rfl;have c2:wr.cell? ⟨g,i*8+2,none⟩=some (.int .i64 x.p.w.hi):=Tp.out.2.2.2.1.cell HO.out.1.symm hx (j:=2) rfl;have c3:wr.cell? ⟨g,i*8+3,none⟩=some (.int .i64 x.p.a.n):=Tp.out.2.2.2.1.cell HO.out.1.symm hx (j:=3) rfl;have c4:wr.cell? ⟨g,i*8+4,none⟩=some (.int .i64 x.p.a.a):=Tp.out.2.2.2.1.cell HO.out.1.symm hx (j:=4) rfl;have c5:wr.cell? ⟨g,i*8+5,none⟩=some x.tv:=Tp.out.2.2.2.1.cell HO.out.1.symm hx (j:=5) rfl;have c6:wr.cell? ⟨g,i*8+6,none⟩=some x.z:=Tp.out.2.2.2.1.cell HO.out.1.symm hx (j:=6) rfl;have c7:wr.cell? ⟨g,i*8+7,none⟩=some (.int .i64 x.p.r):=Tp.out.2.2.2.1.cell HO.out.1.symm hx (j:=7) rfl;clear hx hi hlt eu hB;obtain⟨X,hX⟩:=Nm x;rw[<-hX]at HX YO;obtain⟨⟨⟨xk,xl,xh⟩,⟨xn,xa,xt,xu,xv⟩,xr⟩,Su,xz,Sw,Sz⟩:=x;simp only at c0 c1 c2 c3 c4 c5 c6 c7;go_upto_region 8 with(fail);refine bg4 ?_
    iterate 15 go_step
    refine bg6 rfl _ _ _ rfl wr.heap.size (bn.mk ⟨⟨xk,xl,xh⟩,⟨xn,xa,xt,xu,xv⟩,xr⟩ Su xz Sw Sz).cells rfl rfl 55 cO.cells (bg5 wr _) fo rfl (fG _) ?_;obtain⟨wx,hwx⟩:=Nm ((wr.alloc (Obj.cells #[.string ⟨#[]⟩,.int .i64 0,.int .i64 0,.int .i64 0,.int .i64 0,.slice none 0 0,.complex .f64 0 0,.int .i64 0] 55)).setRow wr.heap.size (bn.mk ⟨⟨xk,xl,xh⟩,⟨xn,xa,xt,xu,xv⟩,xr⟩ Su xz Sw Sz).cells);obtain⟨xb,hxb⟩:=Nm (wr.heap.size);have Sn:Hid (cz wx xb (bn.mk ⟨⟨xk,xl,xh⟩,⟨xn,xa,xt,xu,xv⟩,xr⟩ Su xz Sw Sz)/\qj w qb sb rb B Q m (.slice sa n sc) (.slice (some ⟨g,0,none⟩) n vc) nl wx/\Bw wo wx):=by
     obtain⟨k1,k2⟩:=fO wr (bn.mk ⟨⟨xk,xl,xh⟩,⟨xn,xa,xt,xu,xv⟩,xr⟩ Su xz Sw Sz);rw[hwx,hxb];exact Lh ⟨k1,Tp.out.below k2,HI.out.2.trans (k2.mono HI.out.2.size)⟩
    rw[<-hwx,<-hxb];clear hwx hxb c0 c1 c2 c3 c4 c5 c6 c7 Tp;have HC:Hid (∀w',Bw wx w'->(w'.cell? ⟨xb,0,none⟩=some (Sv xk)/\w'.cell? ⟨xb,1,none⟩=some (.int .i64 xl)/\w'.cell? ⟨xb,2,none⟩=some (.int .i64 xh)/\w'.cell? ⟨xb,7,none⟩=some (.int .i64 xr))):=by
     refine Lh (λw' h=>?_);obtain⟨f0,f1,f2,_,_,_,_,f7⟩:=(Sn.out.1.below h).d8;exact⟨f0,f1,f2,f7⟩
    have SB:Hid (Bw wx wx.drew):=Lh (Below.refl _ wx).drew;have SX:=Lh HX.out.2;have HF:Hid (fV t X.p=(decide (xr=0) && decide (xh<=t))):=by
     unfold fV ji;rw[YO.1,hX];exact Lh (by rw[bgw])
    have uE:Hid ((nl.map bn.p)[i]? =some X.p):=Lh (by rw[bgf,HX.out.1];rfl)
    have YL:Hid (X.p.w=⟨xk,xl,xh⟩):=by rw[hX];exact Lh rfl
    have XK:Hid (∀w' (b':Int),Bw wx w'->nX (nl.map bn.p) t (i+1) b'->Ns wo (nl.map bn.p) t n (.int .i64 b') (.int .i64 ((i:Int)+1)) w'):=Lh (λw' b' hB h=>⟨i+1,HX.out.2,by go_num,b',rfl,h,Sn.out.2.2.trans (hB.mono Sn.out.2.2.size)⟩)
    clear YO hX;by_cases hr0:xr=0
    ·have ul:Hid ((xr==0)=true):=Lh (by rw[hr0];rfl)
     by_cases hh:xh<=t
     ·have iK:Hid (decide (xh<=t)=true):=Lh (bfr hh);have hf:fV t X.p=true:=by rw[HF.out,hr0,iK.out];rfl
      rcases HI.out.1.cases with hb | ⟨k,hb,hk⟩
      ·subst hb;have HZ:=Lh (λw' hB=>XK.out w' _ hB (HI.out.1.first uE.out hf))
       clear hr0 hh hf;go_upto_region 9 with(fail);refine bD (λi=>([14,15,16,17,18,19,20,21,22]:List Nat).contains i) (by kernel_rfl) (NoF (NoF (NoF (NoF [none,none,none,none,none])))) [] (λi_ _ _ v_=>v_=((([.pointer (some ⟨xb,7,none⟩),.int .i64 xr,.bool true,.bool true,.pointer (some ⟨xb,0,none⟩),.pointer (some ⟨xb,2,none⟩),.int .i64 xh,.int .i64 t,.bool true,.bool true,.bool true,.int .i64 (-1),.bool true,.bool true,undef,undef,undef,undef,undef,undef,undef,undef,undef,.bool true,.bool true]:List Value))).getD i_ undef) (λ_ w'=>Bw wx w') (λw w'=>Bw w w') (λ_ _ _ _ _ _ h=>h) (by kernel_rfl) (by kernel_rfl) (by kernel_rfl) SB.out (λ_=>⟨rfl,rfl,rfl,rfl,IlA,IlA,IlA,IlA,IlA,rfl,rfl,IlA,IlA,IlA,IlA,IlA,IlA,IlA,IlA,IlA,IlA,IlA,IlA,IlA,rfl,trivial⟩) (λi hi=>by have hm:=List.contains_iff_mem.1 hi;simp only[bf2,bf9,or_false]at hm;rcases hm with rfl | rfl | rfl | rfl | rfl | rfl | rfl | rfl | rfl <;> exact⟨rfl,λ_ _=>rfl⟩) ?_ ?_
       ·refine ⟨?_,?_,?_,?_,?_,?_,?_,?_,?_,?_,?_,?_,?_,?_,?_,?_,?_,?_,?_,?_,?_,?_,?_,?_,?_,trivial⟩<;>(first|exact λh=>absurd h (by decide)|intro _ _ a w' hG Si Sj K hK)<;>replace Si:=Lh Si<;>replace Sj:=Lh Sj
        have VU:=FaA Si 12 xb 0;rotate_left;have q32:=Pa a 32 xb 7 Sj.out.1;obtain⟨f0,f1,f2,f7⟩:=HC.out w' hG;rotate_left;have Zx:=Pi a 33 xr Sj.out.1;have h0:=ul.out;rotate_left;have ZZ:=Ep a 34 (.bool true) Sj.out.1;rotate_left;have VU:=FaA Si 12 xb 0;rotate_left;have YS:=Pa a 36 xb 0 Sj.out.1;rotate_left;have YD:=Pa a 37 xb 2 Sj.out.1;obtain⟨f0,f1,f2,f7⟩:=HC.out w' hG;rotate_left;have q2:=FiA Si 2 t;rotate_left;have XX:=Pi a 38 xh Sj.out.1;have XY:=Pi a 39 t Sj.out.2.1;have hh:=iK.out;rotate_left;have Xw:=Ep a 35 (.bool true) Sj.out.1;have YE:=Ep a 40 (.bool true) Sj.out.2.1;rotate_left;have Z0:=Ep a 41 (.bool true) Sj.out.1;rotate_left;have XV:=FoA Si 10 (.int .i64 (-1));rotate_left;have Z5:=Ep a 43 (.int .i64 (-1)) Sj.out.1;rotate_left;have YT:=Ep a 44 (.bool true) Sj.out.1;rotate_left;have Z6:=Ep a 45 (.bool true) Sj.out.1;have EZ:=Ep a 54 undef Sj.out.2.1;rotate_left;have Z4:=Ep a 42 (.bool true) Sj.out.1;have ZA:=Ep a 55 (.bool true) Sj.out.2.1;rotate_left
        all_goals(go_step;exact hK _ _ rfl hG Br)
       intro vs w2 hG hlen hV
       match vs,hlen,hV with
       | [v0,v1,v2,v3,v4,v5,v6,v7,v8,v9,v10,v11,v12,v13,v14,v15,v16,v17,v18,v19,v20,v21,v22,v23,v24],_,hV=>
        obtain rfl:v24=.bool true:=(hV 24 56 v24 rfl rfl);clear hV;simp only[dG,bf7,bf1];simp only[Act.put,bfw,bfu,bfv];have Tw:=Lh (HZ.out w2 hG);clear hG hV hlen;go_wp2_with(fail);go_roundw
        case rel=>exact Tw.out
        case measure=>have:=SX.out;simp[intOf];omega
      subst hb;obtain⟨y,hy⟩:∃y,nl[k]? =some y:=⟨_,bfs (by rw[HO.out.1];have:=HX.out.2;omega)⟩
      obtain⟨c,hc⟩:=Nm (ve X.p.w y.p.w);obtain⟨cd,hcd⟩:=Nm (decide (c<0));have Er:Hid (∀w',Calls prog 85 #[.agg #[Sv xk,.int .i64 xl,.int .i64 xh],.agg y.p.w.cells] w' (bE w' (.int .i64 c))):=by
       rw[hc,YL.out];exact Lh (λw'=>Cz w' _ _)
      have UJ:Hid (∀w',Bw wx w'->w'.cell? ⟨g,k*8,none⟩=some (Sv y.p.w.key)/\w'.cell? ⟨g,k*8+1,none⟩=some (.int .i64 y.p.w.lo)/\w'.cell? ⟨g,k*8+2,none⟩=some (.int .i64 y.p.w.hi)):=by
       refine Lh (λw' h=>?_);have hO:=(Sn.out.2.1.below h).2.2.2.1;exact⟨hO.cell HO.out.1.symm hy (j:=0) rfl,hO.cell HO.out.1.symm hy (j:=1) rfl,hO.cell HO.out.1.symm hy (j:=2) rfl⟩
      have I6:(nl.map bn.p)[k]? =some y.p:=by rw[bgf,hy];rfl
      have HZ:Hid (∀w',Bw wx w'->Ns wo (nl.map bn.p) t n (.int .i64 (if cd=true then (i:Int)else (k:Int))) (.int .i64 ((i:Int)+1)) w'):=by
       refine Lh (λw' hB=>XK.out w' _ hB ?_);by_cases hcc:c<0
       ·rw[hcd,if_pos (bfr hcc)];exact HI.out.1.less I6 uE.out hf (by rw[<-hc];exact hcc)
       rw[hcd,if_neg (by simpa using hcc)]
       exact HI.out.1.keep I6 uE.out (by rw[<-hc];exact hcc)
      have HCd:Hid (decide (c<0)=cd):=Lh hcd.symm;have iL:Hid ((0:Int)<=(k:Int)/\(k:Int)<(n:Int)/\decide ((k:Int)<0)=false):=Lh ⟨by omega,by have:=HX.out.2;omega,bfq (by omega)⟩
      obtain⟨⟨⟨yk,yl,yh⟩,ya,yr⟩,Vd,yz,Tv,VC⟩:=y;simp only at Er UJ;unfold bg.cells at Er;simp only at Er;clear hr0 hh hf hy hc hcd I6 hk;go_upto_region 9 with(fail);refine bD (λi=>([]:List Nat).contains i) (by kernel_rfl) (NoF (NoF (NoF (NoF [none,none,none,none,none])))) [] (λi_ _ _ v_=>v_=((([.pointer (some ⟨xb,7,none⟩),.int .i64 xr,.bool true,.bool true,.pointer (some ⟨xb,0,none⟩),.pointer (some ⟨xb,2,none⟩),.int .i64 xh,.int .i64 t,.bool true,.bool true,.bool true,.int .i64 (k:Int),.bool false,.bool false,.pointer (some ⟨xb,0,none⟩),.agg #[Sv xk,.int .i64 xl,.int .i64 xh],.slice (some ⟨g,0,none⟩) n vc,.int .i64 (k:Int),.pointer (some ⟨g,k*8,none⟩),.pointer (some ⟨g,k*8,none⟩),.agg #[Sv yk,.int .i64 yl,.int .i64 yh],.int .i64 c,.bool cd,.bool cd,.bool cd]:List Value))).getD i_ undef) (λ_ w'=>Bw wx w') (λw w'=>Bw w w') (λ_ _ _ _ _ _ h=>h) (by kernel_rfl) (by kernel_rfl) (by kernel_rfl) SB.out (λ_=>⟨rfl,rfl,rfl,rfl,IlA,IlA,IlA,IlA,IlA,rfl,rfl,IlA,IlA,IlA,IlA,IlA,IlA,IlA,IlA,IlA,IlA,IlA,IlA,IlA,rfl,trivial⟩) (λ_ h=>by simp at h) ?_ ?_
      ·refine ⟨?_,?_,?_,?_,?_,?_,?_,?_,?_,?_,?_,?_,?_,?_,?_,?_,?_,?_,?_,?_,?_,?_,?_,?_,?_,trivial⟩<;>intro _ _ a w' hG Si Sj K hK<;>replace Si:=Lh Si<;>replace Sj:=Lh Sj
       have VU:=FaA Si 12 xb 0;rotate_left;have q32:=Pa a 32 xb 7 Sj.out.1;obtain⟨f0,f1,f2,f7⟩:=HC.out w' hG;rotate_left;have Zx:=Pi a 33 xr Sj.out.1;have h0:=ul.out;rotate_left;have ZZ:=Ep a 34 (.bool true) Sj.out.1;rotate_left;have VU:=FaA Si 12 xb 0;rotate_left;have YS:=Pa a 36 xb 0 Sj.out.1;rotate_left;have YD:=Pa a 37 xb 2 Sj.out.1;obtain⟨f0,f1,f2,f7⟩:=HC.out w' hG;rotate_left;have q2:=FiA Si 2 t;rotate_left;have XX:=Pi a 38 xh Sj.out.1;have XY:=Pi a 39 t Sj.out.2.1;have hh:=iK.out;rotate_left;have Xw:=Ep a 35 (.bool true) Sj.out.1;have YE:=Ep a 40 (.bool true) Sj.out.2.1;rotate_left;have Z0:=Ep a 41 (.bool true) Sj.out.1;rotate_left;have XV:=FiA Si 10 k;rotate_left;have Z5:=Pi a 43 k Sj.out.1;have hk0:=iL.out.2.2;rotate_left;have YT:=Ep a 44 (.bool false) Sj.out.1;rotate_left;have VU:=FaA Si 12 xb 0;rotate_left;have Zy:=Pa a 46 xb 0 Sj.out.1;obtain⟨f0,f1,f2,f7⟩:=HC.out w' hG;rotate_left;have q8:=FoA Si 8 (.slice (some ⟨g,0,none⟩) n vc);rotate_left;have XV:=FiA Si 10 k;rotate_left;have Z7:=Ep a 48 (.slice (some ⟨g,0,none⟩) n vc) Sj.out.1;have iF:=Pi a 49 k Sj.out.2.1;have hk0:=iL.out.1;have hk1:=iL.out.2.1;rotate_left;have EX:=Ep a 50 (.pointer (some ⟨g,k*8,none⟩)) Sj.out.1;rotate_left;have EY:=Ep a 51 (.pointer (some ⟨g,k*8,none⟩)) Sj.out.1;obtain⟨y0,y1,y2⟩:=UJ.out w' hG;rotate_left
       ·have Zz:=Ep a 47 (.agg #[Sv xk,.int .i64 xl,.int .i64 xh]) Sj.out.1;have AV:=Ep a 52 (.agg #[Sv yk,.int .i64 yl,.int .i64 yh]) Sj.out.2.1;have HS:=Lh (Er.out w');go_step;refine HS.out.mono ?_;rintro e w3 ⟨rfl,hB⟩;exact hK _ _ rfl (Tb hG hB) hB
       have Um:=Pi a 53 c Sj.out.1;have hcd:=HCd.out;rotate_left;have Z6:=Ep a 45 (.bool false) Sj.out.1;have EZ:=Ep a 54 (.bool cd) Sj.out.2.1;rotate_left;have Z4:=Ep a 42 (.bool true) Sj.out.1;have ZA:=Ep a 55 (.bool cd) Sj.out.2.1;rotate_left
       all_goals(go_step;exact hK _ _ rfl hG Br)
      intro vs w2 hG hlen hV
      match vs,hlen,hV with
      | [v0,v1,v2,v3,v4,v5,v6,v7,v8,v9,v10,v11,v12,v13,v14,v15,v16,v17,v18,v19,v20,v21,v22,v23,v24],_,hV=>
       obtain rfl:v24=.bool cd:=(hV 24 56 v24 rfl rfl);clear hV;simp only[dG,bf7,bf1];simp only[Act.put,bfw,bfu,bfv];have Tw:=Lh (HZ.out w2 hG);clear hG hV hlen
       cases cd with
       | true=>
        rw[if_pos rfl]at Tw;go_wp2_with(fail);go_roundw
        case rel=>exact Tw.out
        case measure=>have:=SX.out;simp[intOf];omega
       | false=>
        rw[if_neg (by decide)]at Tw
        go_wp2_with(fail);go_roundw
        case rel=>exact Tw.out
        case measure=>have:=SX.out;simp[intOf];omega
     have iK:Hid (decide (xh<=t)=false):=Lh (bfq hh);have HZ:=Lh (λw' hB=>XK.out w' _ hB (HI.out.1.skip uE.out (by rw[HF.out,iK.out,Bool.and_false])))
     clear hr0 hh;go_upto_region 9 with(fail);refine bD (λi=>([11,12,13,14,15,16,17,18,19,20,21,22,23]:List Nat).contains i) (by kernel_rfl) (NoF (NoF (NoF (NoF [none,none,none,none,none])))) [] (λi_ _ _ v_=>v_=((([.pointer (some ⟨xb,7,none⟩),.int .i64 xr,.bool true,.bool true,.pointer (some ⟨xb,0,none⟩),.pointer (some ⟨xb,2,none⟩),.int .i64 xh,.int .i64 t,.bool false,.bool false,.bool false,undef,undef,undef,undef,undef,undef,undef,undef,undef,undef,undef,undef,undef,.bool false]:List Value))).getD i_ undef) (λ_ w'=>Bw wx w') (λw w'=>Bw w w') (λ_ _ _ _ _ _ h=>h) (by kernel_rfl) (by kernel_rfl) (by kernel_rfl) SB.out (λ_=>⟨rfl,rfl,rfl,rfl,IlA,IlA,IlA,IlA,IlA,rfl,rfl,IlA,IlA,IlA,λ_ _ h=> .inr ⟨rfl,h⟩,λ_ _ h=> .inr ⟨rfl,h⟩,λ_ _ h=> .inr ⟨rfl,h⟩,λ_ _ h=> .inr ⟨rfl,h⟩,λ_ _ h=> .inr ⟨rfl,h⟩,λ_ _ h=> .inr ⟨rfl,h⟩,λ_ _ h=> .inr ⟨rfl,h⟩,λ_ _ h=> .inr ⟨rfl,h⟩,λ_ _ h=> .inr ⟨rfl,h⟩,IlA,rfl,trivial⟩) (λi hi=>by have hm:=List.contains_iff_mem.1 hi;simp only[bf2,bf9,or_false]at hm;rcases hm with rfl | rfl | rfl | rfl | rfl | rfl | rfl | rfl | rfl | rfl | rfl | rfl | rfl <;> exact⟨rfl,λ_ _=>rfl⟩) ?_ ?_
     ·refine ⟨?_,?_,?_,?_,?_,?_,?_,?_,?_,?_,?_,?_,?_,?_,?_,?_,?_,?_,?_,?_,?_,?_,?_,?_,?_,trivial⟩<;>(first|exact λh=>absurd h (by decide)|intro _ _ a w' hG Si Sj K hK)<;>replace Si:=Lh Si<;>replace Sj:=Lh Sj
      have VU:=FaA Si 12 xb 0;rotate_left;have q32:=Pa a 32 xb 7 Sj.out.1;obtain⟨f0,f1,f2,f7⟩:=HC.out w' hG;rotate_left;have Zx:=Pi a 33 xr Sj.out.1;have h0:=ul.out;rotate_left;have ZZ:=Ep a 34 (.bool true) Sj.out.1;rotate_left;have VU:=FaA Si 12 xb 0;rotate_left;have YS:=Pa a 36 xb 0 Sj.out.1;rotate_left;have YD:=Pa a 37 xb 2 Sj.out.1;obtain⟨f0,f1,f2,f7⟩:=HC.out w' hG;rotate_left;have q2:=FiA Si 2 t;rotate_left;have XX:=Pi a 38 xh Sj.out.1;have XY:=Pi a 39 t Sj.out.2.1;have hh:=iK.out;rotate_left;have Xw:=Ep a 35 (.bool true) Sj.out.1;have YE:=Ep a 40 (.bool false) Sj.out.2.1;rotate_left;have Z0:=Ep a 41 (.bool false) Sj.out.1;rotate_left;have Z4:=Ep a 42 (.bool false) Sj.out.1;have ZA:=Ep a 55 undef Sj.out.2.1;rotate_left
      all_goals(go_step;exact hK _ _ rfl hG Br)
     intro vs w2 hG hlen hV
     match vs,hlen,hV with
     | [v0,v1,v2,v3,v4,v5,v6,v7,v8,v9,v10,v11,v12,v13,v14,v15,v16,v17,v18,v19,v20,v21,v22,v23,v24],_,hV=>
      obtain rfl:v24=.bool false:=(hV 24 56 v24 rfl rfl);clear hV;simp only[dG,bf7,bf1];simp only[Act.put,bfw,bfu,bfv];have Tw:=Lh (HZ.out w2 hG);clear hG hV hlen;go_wp2_with(fail);go_roundw
      case rel=>exact Tw.out
      case measure=>have:=SX.out;simp[intOf];omega
    have ul:Hid ((xr==0)=false):=Lh (by simpa using hr0)
    have HZ:=Lh (λw' hB=>XK.out w' _ hB (HI.out.1.skip uE.out (by rw[HF.out,bfq hr0,Bool.false_and])))
    clear hr0;go_upto_region 9 with(fail);refine bD (λi=>([4,5,6,7,8,11,12,13,14,15,16,17,18,19,20,21,22,23]:List Nat).contains i) (by kernel_rfl) (NoF (NoF (NoF (NoF [none,none,none,none,none])))) [] (λi_ _ _ v_=>v_=((([.pointer (some ⟨xb,7,none⟩),.int .i64 xr,.bool false,.bool false,undef,undef,undef,undef,undef,.bool false,.bool false,undef,undef,undef,undef,undef,undef,undef,undef,undef,undef,undef,undef,undef,.bool false]:List Value))).getD i_ undef) (λ_ w'=>Bw wx w') (λw w'=>Bw w w') (λ_ _ _ _ _ _ h=>h) (by kernel_rfl) (by kernel_rfl) (by kernel_rfl) SB.out (λ_=>⟨rfl,rfl,rfl,rfl,IlA,IlA,IlA,IlA,IlA,rfl,rfl,IlA,IlA,IlA,λ_ _ h=> .inr ⟨rfl,h⟩,λ_ _ h=> .inr ⟨rfl,h⟩,λ_ _ h=> .inr ⟨rfl,h⟩,λ_ _ h=> .inr ⟨rfl,h⟩,λ_ _ h=> .inr ⟨rfl,h⟩,λ_ _ h=> .inr ⟨rfl,h⟩,λ_ _ h=> .inr ⟨rfl,h⟩,λ_ _ h=> .inr ⟨rfl,h⟩,λ_ _ h=> .inr ⟨rfl,h⟩,IlA,rfl,trivial⟩) (λi hi=>by have hm:=List.contains_iff_mem.1 hi;simp only[bf2,bf9,or_false]at hm;rcases hm with rfl | rfl | rfl | rfl | rfl | rfl | rfl | rfl | rfl | rfl | rfl | rfl | rfl | rfl | rfl | rfl | rfl | rfl <;> exact⟨rfl,λ_ _=>rfl⟩) ?_ ?_
    ·refine ⟨?_,?_,?_,?_,?_,?_,?_,?_,?_,?_,?_,?_,?_,?_,?_,?_,?_,?_,?_,?_,?_,?_,?_,?_,?_,trivial⟩<;>(first|exact λh=>absurd h (by decide)|intro _ _ a w' hG Si Sj K hK)<;>replace Si:=Lh Si<;>replace Sj:=Lh Sj
     have VU:=FaA Si 12 xb 0;rotate_left;have q32:=Pa a 32 xb 7 Sj.out.1;obtain⟨f0,f1,f2,f7⟩:=HC.out w' hG;rotate_left;have Zx:=Pi a 33 xr Sj.out.1;have h0:=ul.out;rotate_left;have ZZ:=Ep a 34 (.bool false) Sj.out.1;rotate_left;have Xw:=Ep a 35 (.bool false) Sj.out.1;have YE:=Ep a 40 undef Sj.out.2.1;rotate_left;have Z0:=Ep a 41 (.bool false) Sj.out.1;rotate_left;have Z4:=Ep a 42 (.bool false) Sj.out.1;have ZA:=Ep a 55 undef Sj.out.2.1;rotate_left
     all_goals(go_step;exact hK _ _ rfl hG Br)
    intro vs w2 hG hlen hV
    match vs,hlen,hV with
    | [v0,v1,v2,v3,v4,v5,v6,v7,v8,v9,v10,v11,v12,v13,v14,v15,v16,v17,v18,v19,v20,v21,v22,v23,v24],_,hV=>
     obtain rfl:v24=.bool false:=(hV 24 56 v24 rfl rfl);clear hV;simp only[dG,bf7,bf1];simp only[Act.put,bfw,bfu,bfv];have Tw:=Lh (HZ.out w2 hG);clear hG hV hlen;go_wp2_with(fail);go_roundw
     case rel=>exact Tw.out
     case measure=>have:=SX.out;simp[intOf];omega
   obtain rfl:i=n:=by omega
   clear hlt hi eu hB;have Tp:=Lh (HR.out.below HI.out.2);have iP:Hid (fe wr B ov ol/\∀y∈ol,dO wr y):=Lh ⟨HO.out.2.2.2.1.far HI.out.2,λy hy=>(HO.out.2.2.2.2.1 y hy).below HI.out.2⟩;have hbs:nX (ps.map (jd ((ol.map bM.o).map dB.w))) t ps.length b:=by
    rw[<-HO.out.2.2.1,HN.out.2.1];exact HI.out.1
   rcases HI.out.1.cases with hb | ⟨k,hb,hk⟩
   ·subst hb;have HDn:=Lh (HO.out.2.1.end Ye.out.2.1 hbs);obtain⟨wp,hwp⟩:=Nm wr;rw[<-hwp]at Tp iP HI;rw[<-hwp];clear hbs hwp;go_wp2_with(fail);go_loopw[13,83] (Nr wp Q t nl wp.heap.size) (λ_ v _=>i-(intOf v).toNat)
    case atStart=>exact⟨0,bgi _,rfl,cK.nil _ _,Br⟩
    case round=>
     obtain⟨j,hj,rfl,hO,hB⟩:=hrel;rw[HO.out.1]at hj;have WO:=Lh (bfy hO hB);obtain⟨vb,hvb⟩:=Nm u13;rw[<-hvb]at WO;rw[<-hvb];clear hO hB hvb;by_cases hlt:j<i
     ·have hi0:(0:Int)<=(j:Int)/\(j:Int)<(i:Int):=by omega
      obtain⟨g,c',hsh,_⟩:=HR.out.2.2.2.1.shape.resolve_left (λh=>by have:=HO.out.1;rw[h.2]at this;simp at this;omega)
      have hva:va=some ⟨g,0,none⟩:=by injection hsh
      clear hsh;subst hva;obtain⟨x,hx⟩:∃x,nl[j]? =some x:=⟨_,bfs (by rw[HO.out.1];exact hlt)⟩
      have HX:Hid (nl.take (j+1)=nl.take j++[x]/\j<i):=Lh ⟨by rw[List.take_add_one,hx];rfl,hlt⟩
      have YO:=HO.out.2.2.2.2.2.2 x (bf3 hx);have TK:=Lh (Tp.out.below WO.out.2);have c0:wr.cell? ⟨g,j*8,none⟩=some (Sv x.p.w.key):=TK.out.2.2.2.1.cell HO.out.1.symm hx (j:=0) rfl;have c1:wr.cell? ⟨g,j*8+1,none⟩=some (.int .i64 x.p.w.lo):=TK.out.2.2.2.1.cell HO.out.1.symm hx (j:=1) rfl;have c2:wr.cell? ⟨g,j*8+2,none⟩=some (.int .i64 x.p.w.hi):=TK.out.2.2.2.1.cell HO.out.1.symm hx (j:=2) rfl;have c3:wr.cell? ⟨g,j*8+3,none⟩=some (.int .i64 x.p.a.n):=TK.out.2.2.2.1.cell HO.out.1.symm hx (j:=3) rfl;have c4:wr.cell? ⟨g,j*8+4,none⟩=some (.int .i64 x.p.a.a):=TK.out.2.2.2.1.cell HO.out.1.symm hx (j:=4) rfl;have c5:wr.cell? ⟨g,j*8+5,none⟩=some (x.tv):=TK.out.2.2.2.1.cell HO.out.1.symm hx (j:=5) rfl;have c6:wr.cell? ⟨g,j*8+6,none⟩=some (x.z):=TK.out.2.2.2.1.cell HO.out.1.symm hx (j:=6) rfl;have c7:wr.cell? ⟨g,j*8+7,none⟩=some (.int .i64 x.p.r):=TK.out.2.2.2.1.cell HO.out.1.symm hx (j:=7) rfl;clear hx hj hlt TK;obtain⟨X,hX⟩:=Nm x;rw[<-hX]at HX YO;obtain⟨⟨⟨xk,xl,xh⟩,⟨xn,xa,xt,xu,xv⟩,xr⟩,Su,xz,Sw,Sz⟩:=x;simp only at c0 c1 c2 c3 c4 c5 c6 c7;go_upto_region 18 with(fail);refine bg4 ?_
      iterate 9 go_step
      refine bg6 rfl _ _ _ rfl wr.heap.size (bn.mk ⟨⟨xk,xl,xh⟩,⟨xn,xa,xt,xu,xv⟩,xr⟩ Su xz Sw Sz).cells rfl rfl 55 cO.cells (bg5 wr _) fo rfl (fG _) ?_;obtain⟨wx,hwx⟩:=Nm ((wr.alloc (Obj.cells #[.string ⟨#[]⟩,.int .i64 0,.int .i64 0,.int .i64 0,.int .i64 0,.slice none 0 0,.complex .f64 0 0,.int .i64 0] 55)).setRow wr.heap.size (bn.mk ⟨⟨xk,xl,xh⟩,⟨xn,xa,xt,xu,xv⟩,xr⟩ Su xz Sw Sz).cells);obtain⟨xb,hxb⟩:=Nm (wr.heap.size);have Sn:Hid (cz wx xb (bn.mk ⟨⟨xk,xl,xh⟩,⟨xn,xa,xt,xu,xv⟩,xr⟩ Su xz Sw Sz)/\cK wx wp.heap.size vb (((nl.take j).filter λx=>gy Q x.p.w t).map λx=>x.p.w)/\Bw wp wx):=by
       obtain⟨k1,k2⟩:=fO wr (bn.mk ⟨⟨xk,xl,xh⟩,⟨xn,xa,xt,xu,xv⟩,xr⟩ Su xz Sw Sz);rw[hwx,hxb];exact Lh ⟨k1,WO.out.1.far k2,WO.out.2.trans (k2.mono WO.out.2.size)⟩
      rw[<-hwx,<-hxb];clear hwx hxb c0 c1 c2 c3 c4 c5 c6 c7;have EF:=Lh (Tp.out.below Sn.out.2.2);obtain⟨gn,hgn⟩:=Nm (gy Q X.p.w t);have WP:Hid (Calls prog 71 #[.agg #[.int .i64 kind,.int .i64 size,.int .i64 slide,.int .i64 late,.int .i64 agg,.int .i64 kq],.agg #[Sv xk,.int .i64 xl,.int .i64 xh],.int .i64 t] wx (bE wx (.bool gn))):=by
       have h:=V7.out wx X.p.w YO.1;rw[hgn,<-VF.out];rw[hX]at h ⊢;exact Lh h
      have YL:Hid (X.p.w=⟨xk,xl,xh⟩):=by rw[hX];exact Lh rfl
      have oU:=Lh hgn;have SX:=Lh HX.out.2;clear YO hgn hX;obtain⟨d0,d1,d2,d3,d4,d5⟩:=SV.out wx EF.out.1;obtain⟨f0,f1,f2,_⟩:=Sn.out.1.d8;simp only at f0 f1 f2
      cases gn with
      | true=>
       go_wp2_with(fail);refine WP.out.mono ?_;rintro e w7 ⟨rfl,hB⟩;have H7:Hid (cz w7 xb (bn.mk ⟨⟨xk,xl,xh⟩,⟨xn,xa,xt,xu,xv⟩,xr⟩ Su xz Sw Sz)/\cK w7 wp.heap.size vb (((nl.take j).filter λx=>gy Q x.p.w t).map λx=>x.p.w)/\Bw wp w7):=Lh ⟨Sn.out.1.below hB,Sn.out.2.1.far hB,Sn.out.2.2.trans (hB.mono Sn.out.2.2.size)⟩;clear hB d0 d1 d2 d3 d4 d5 f0 f1 f2;dsimp only;obtain⟨f0,f1,f2,_⟩:=H7.out.1.d8;simp only at f0 f1 f2;go_upto_region 20 with(fail);refine bg4 ?_
       iterate 9 go_step
       refine fE rfl (.tmp 94) rfl ⟨xk,xl,xh⟩ rfl ?_;obtain⟨w8,hw8⟩:=Nm (w7.alloc (.cells (bg.mk xk xl xh).cells 47));obtain⟨gb,hgb⟩:=Nm (w7.heap.size);have H8:Hid (cK w8 wp.heap.size vb (((nl.take j).filter λx=>gy Q x.p.w t).map λx=>x.p.w)/\Bw wp w8/\(∀j z,(bg.mk xk xl xh).cells[j]? =some z->w8.cell? ⟨gb,j,none⟩=some z)):=by
        have hB:Bw w7 w8:=by rw[hw8];exact(Below.refl _ w7).alloc (bfx _) _
        refine Lh ⟨H7.out.2.1.far hB,H7.out.2.2.trans (hB.mono H7.out.2.2.size),λj z hz=>?_⟩;rw[hw8,hgb,cell_of_row _ _ _ _ _ _ (bg5 w7 _)];exact hz
       rw[<-hw8,<-hgb];clear hw8 hgb f0 f1 f2;refine jZ rfl (.tmp 92) (.tmp 95) rfl wp.heap.size vb (((nl.take j).filter λx=>gy Q x.p.w t).map λx=>x.p.w) rfl H8.out.1 ⟨xk,xl,xh⟩ gb rfl H8.out.2.2 (by have:=List.length_filter_le (λx:bn=>gy Q x.p.w t) (nl.take j);rw[bga]at this;rw[bfz];have:=HX.out.2;omega) H8.out.2.1.size ?_
       intro v' w9 g1 g2 g3;have H9:Hid (Nr wp Q t nl wp.heap.size v' (.int .i64 ((j:Int)+1)) w9):=by
        refine Lh ⟨j+1,by rw[HO.out.1];exact HX.out.2,by go_num,?_,H8.out.2.1.trans (cK.below H8.out.1 g2 H8.out.2.1.size)⟩
        rw[HX.out.1,List.filter_append,bgl,List.filter_cons_of_pos (by rw[<-oU.out]),List.filter_nil,bgc,bge,YL.out]
        exact g1
       clear g1 g2 g3;go_wp2_with(fail);go_roundw
       case rel=>exact H9.out
       case measure=>have:=SX.out;simp[intOf];omega
      | false=>
       go_wp2_with(fail);refine WP.out.mono ?_;rintro e w7 ⟨rfl,hB⟩;have H9:Hid (Nr wp Q t nl wp.heap.size vb (.int .i64 ((j:Int)+1)) w7):=by
        refine Lh ⟨j+1,by rw[HO.out.1];exact HX.out.2,by go_num,?_,Sn.out.2.2.trans (hB.mono Sn.out.2.2.size)⟩
        rw[HX.out.1,List.filter_append,bgl,List.filter_cons_of_neg (by rw[<-oU.out];decide),List.filter_nil,bge,bg2]
        exact Sn.out.2.1.far hB
       clear hB d0 d1 d2 d3 d4 d5 f0 f1 f2;dsimp only;go_wp2_with(fail);go_roundw
       case rel=>exact H9.out
       case measure=>have:=SX.out;simp[intOf];omega
     obtain rfl:j=i:=by omega
     have hall:nl.take j=nl:=by rw[<-HO.out.1,bgs]
     rw[hall]at WO;obtain⟨ga,gc,rfl,hgc,hgA⟩:=WO.out.1.form;obtain⟨gw,hgw⟩:=Nm ((nl.filter λx=>gy Q x.p.w t).map λx=>x.p.w);have TK:=Lh (Tp.out.below WO.out.2);have Ab:gw=((nl.map bn.p).filter λp=>gy Q p.w t).map bH.w:=by
      rw[hgw,List.filter_map,List.map_map];rfl
     have iU:Hid (Calls prog 84 #[.slice va j vc,.slice ga gw.length gc] wr (kM wr (kT Q t ps) (·∈nl))):=by
      have h:=qg wr va ga vc gc nl gw (bY.at TK.out.2.2.2.1) (by rw[hgw];exact hgA) (by rw[HO.out.1];omega) (by rw[hgw,bfz];have:=List.length_filter_le (λx:bn=>gy Q x.p.w t) nl;have:=HO.out.1;omega)
      have e:yN gw (nl.map bn.p)=kT Q t ps:=by
       rw[Ab,NT,HO.out.2.2.1,HDn.out.2];rfl
      rw[e,HO.out.1]at h;exact Lh h
     rw[<-hgw];obtain⟨ng,Yp⟩:=Nm (gw.length);rw[<-Yp]at iU ⊢;clear hall hgc hgA hgw Ab hlt hj Yp;go_upto_region 22 with(fail);refine bg4 ?_
     iterate 9 go_step
     refine wpList_plain rfl λK' hK'=>?_;go_step;refine iU.out.mono ?_;rintro e w5 ⟨v,L,rfl,S9,XO,YN,hB⟩;refine hK' _ _ ?_;obtain⟨a5,c5,rfl,hc5,_⟩:=S9.form;have H5:Hid (bT w5 rb 0 bS/\bY w5 wr.heap.size (.slice a5 L.length c5) L/\(∀x∈L,bR w5 x)/\L.map bn.p=kT Q t ps/\fe w5 B ov ol/\(∀y∈ol,dO w5 y)/\Bw w w5):=by
      have hBB:=WO.out.2.trans (hB.mono WO.out.2.size);exact Lh ⟨TK.out.2.2.1.below hB,S9,λx hx=>(TK.out.2.2.2.2.1 x (YN x hx)).below hB,XO,iP.out.1.far hBB,λy hy=>(iP.out.2 y hy).below hBB,TK.out.2.2.2.2.2.trans (hB.mono TK.out.2.2.2.2.2.size)⟩
     have Em:Hid (rb<wr.heap.size):=Lh (by have:=TK.out.2.2.1.lt;omega)
     obtain⟨nL,hnL⟩:=Nm (L.length);rw[<-hnL]at H5 ⊢;clear hK' S9 XO YN hB hc5 hnL;refine dm (by kernel_rfl) 29 _ rfl #[.int .i64 t,.slice a5 nL c5] (by simp only[bgb,bgc,bge];exact qM t a5 nL c5) ?_
     iterate 3 go_step
     refine bg6 rfl _ _ _ rfl rb #[.int .i64 t,.slice a5 nL c5] rfl rfl 29 #[.int .i64 0,bS] H5.out.1 bF rfl (cB rfl) ?_;obtain⟨w9,SI⟩:=Nm (w5.setRow rb #[.int .i64 t,.slice a5 nL c5]);have H9:Hid (bT w9 rb t (.slice a5 nL c5)/\P (.returned (.tuple #[.agg #[.int .i64 t,.slice a5 nL c5],ov])) w9):=by
      have hg:w5.grownBy w9 (some rb):=by rw[SI];exact bC _ _ _
      obtain⟨j1,j2,j3,j4,j5,j6,j7⟩:=H5.out;have hb:=SA.out;have hOs:=lg (B:=B) hb.1.2.2.2 j1 hg ⟨j5,j6⟩;obtain⟨Vx,Vy,hv',hc',Ta⟩:=hOs.1.form;refine Lh ⟨by rw[SI];exact j1.reset t _,Sl.out HT.out w9 _ L ov (j2.kept hg (.inr (λe=>by have:=j2.lt e;have:=Em.out;omega))).ins (λx hx=>(j3 x hx).kJ j1 hg) j4 ?_ (j7.trans (bG hg hb.2.1 j7.size))⟩
      exact⟨Vx,Vy,ol,hv',hc',Ta,hOs.2,HDn.out.1.symm⟩
     rw[<-SI];clear SI;go_wp2_with(fail);exact bodyPost_ret (v:=.tuple #[.agg #[.int .i64 t,.slice a5 nL c5],ov]) ((bK (p:=6) (u:=7) (ty:=29) rfl _ _ rb 29 #[.int .i64 t,.slice a5 nL c5] (0,0) _ rfl H9.out.1 underlying29 rfl bF).trans rfl) rfl H9.out.2
   subst hb;have hlt:=hk;obtain⟨g,c',hsh,_⟩:=HR.out.2.2.2.1.shape.resolve_left (λh=>by have:=HO.out.1;rw[h.2]at this;simp at this;omega)
   have hva:va=some ⟨g,0,none⟩:=by injection hsh
   clear hsh;subst hva;obtain⟨x,hx⟩:∃x,nl[k]? =some x:=⟨_,bfs (by rw[HO.out.1];exact hk)⟩
   obtain⟨p,hp⟩:∃p,ps[k]? =some p:=⟨_,bfs (by rw[HN.out.2.1];exact hk)⟩
   obtain⟨k1,k2,k3⟩:=HO.out.2.1.fire Ye.out.2.1 hbs hp;have hxp:x.p=p:=by
    have h:(nl.map bn.p)[k]? =some x.p:=by rw[bgf,hx];rfl
    rw[HO.out.2.2.1,bgf,hp]at h;have h2:=Option.some.inj h;rw[k3]at h2;exact h2.symm
   rw[<-hxp]at k1 k2;have UQ:Hid (DL Q t ps (ol.map bM.o++[kK Q x.p])/\(nl.map bn.p).set k ⟨x.p.w,x.p.a,1⟩=ps.map (jd ((ol.map bM.o++[kK Q x.p]).map dB.w))):=by
    rw[HO.out.2.2.1];exact Lh ⟨k1,k2⟩
   have YO:=HO.out.2.2.2.2.2.2 x (bf3 hx);have hfz:wr.frozen? ⟨g,k*8+7,none⟩=false:=by
    obtain⟨_,cs,hrow⟩:=Tp.out.2.2.2.1.Pn;simp[World.frozen?,hrow]
   have hc7:wr.cell? ⟨g,k*8+7,none⟩=some (.int .i64 x.p.r):=Tp.out.2.2.2.1.cell HO.out.1.symm hx (j:=7) rfl;have hkd:decide ((k:Int)<0)=false:=bfq (by omega)
   have hk0:(0:Int)<=(k:Int)/\(k:Int)<(i:Int):=by omega
   have iL:=Lh hk0;have HX:Hid (nl[k]? =some x/\k<i):=Lh ⟨hx,hk⟩;have UI:=Lh (bfy hc7 hfz);clear hlt hx hp k1 k2 k3 hxp hk hbs hc7 hfz;go_upto_region 13 with(fail);refine bg4 ?_
   iterate 12 go_step
   refine bU rfl _ (.tmp 64) (.const (.int .i64 1)) rfl ⟨g,k*8+7,none⟩ (.int .i64 1) (.int .i64 x.p.r) rfl rfl rfl rfl sizeOf3 UI.out.1 UI.out.2 ?_;obtain⟨w4,hw4⟩:=Nm (wr.setCell ⟨g,k*8+7,none⟩ (.int .i64 1));obtain⟨X',EQ⟩:∃X':bn,X'=⟨⟨x.p.w,x.p.a,1⟩,x.tv,x.z,x.ht,x.hz⟩:=⟨_,rfl⟩;have H4:Hid (qj w qb sb rb B Q m (.slice sa i sc) (.slice (some ⟨g,0,none⟩) i vc) (nl.set k X') w4/\fe w4 B ov ol/\∀y∈ol,dO w4 y):=by
    rw[hw4,EQ];have h1:=Tp.out.fire SA.out.1 HO.out.1.symm HX.out.1;have h2:=Mr (k:=k*8+7) Tp.out.2.2.2.1 iP.out;exact Lh ⟨h1,h2.1,h2.2⟩
   rw[<-hw4];clear hw4 hkd hk0;have uD:Hid ((nl.set k X')[k]? =some X'/\X'∈nl.set k X'/\i=(nl.set k X').length):=by
    have h:(nl.set k X')[k]? =some X':=by
     have hkl:k<nl.length:=by have:=HX.out.2;have:=HO.out.1;omega
     rw[List.getElem?_set,if_pos rfl,if_pos hkl]
    exact Lh ⟨h,bf3 h,by rw[List.length_set,HO.out.1]⟩
   have SY:Hid (X'.p=⟨x.p.w,x.p.a,1⟩/\(nl.set k X').map bn.p=(nl.map bn.p).set k ⟨x.p.w,x.p.a,1⟩):=by
    refine Lh ⟨by rw[EQ],?_⟩
    rw[List.map_set,EQ]
   have SG:Hid (X'.p.a.bB Q=true):=by rw[SY.out.1];exact Lh YO.2
   obtain⟨nl',Aj⟩:=Nm (nl.set k X');rw[<-Aj]at H4 uD SY;have YV:Hid (DL Q t ps (ol.map bM.o++[kK Q X'.p])/\nl'.map bn.p=ps.map (jd ((ol.map bM.o++[kK Q X'.p]).map dB.w))):=by
    have e:kK Q X'.p=kK Q x.p:=by rw[SY.out.1];rfl
    rw[e,SY.out.2];exact UQ
   clear EQ YO Aj UQ HX;obtain⟨Xc,XC⟩:=Nm (X':bn);rw[<-XC]at uD SG YV;obtain⟨⟨⟨xk,xl,xh⟩,⟨xn,xa,xt,xu,xv⟩,xr⟩,Su,xz,Sw,Sz⟩:=X';have aU:Hid (xr=1):=Lh (by have h:=SY.out.1;injection h)
   have WM:Hid (∀w',qj w qb sb rb B Q m (.slice sa i sc) (.slice (some ⟨g,0,none⟩) i vc) nl' w'->w'.cell? ⟨g,k*8,none⟩=some (Sv xk)/\w'.cell? ⟨g,k*8+1,none⟩=some (.int .i64 xl)/\w'.cell? ⟨g,k*8+2,none⟩=some (.int .i64 xh)/\w'.cell? ⟨g,k*8+3,none⟩=some (.int .i64 xn)/\w'.cell? ⟨g,k*8+4,none⟩=some (.int .i64 xa)/\w'.cell? ⟨g,k*8+5,none⟩=some Su/\w'.cell? ⟨g,k*8+6,none⟩=some xz):=by
    refine Lh (λw' h=>?_);have hh:=uD.out;rw[XC]at hh;exact⟨h.2.2.2.1.cell hh.2.2 hh.1 (j:=0) rfl,h.2.2.2.1.cell hh.2.2 hh.1 (j:=1) rfl,h.2.2.2.1.cell hh.2.2 hh.1 (j:=2) rfl,h.2.2.2.1.cell hh.2.2 hh.1 (j:=3) rfl,h.2.2.2.1.cell hh.2.2 hh.1 (j:=4) rfl,h.2.2.2.1.cell hh.2.2 hh.1 (j:=5) rfl,h.2.2.2.1.cell hh.2.2 hh.1 (j:=6) rfl⟩
   have uA:Hid (∀w',qj w qb sb rb B Q m (.slice sa i sc) (.slice (some ⟨g,0,none⟩) i vc) nl' w'->Calls prog 82 #[.agg #[.int .i64 kind,.int .i64 size,.int .i64 slide,.int .i64 late,.int .i64 agg,.int .i64 kq],.agg #[.int .i64 xn,.int .i64 xa,Su,xz]] w' (ni w' (dV Q ⟨xn,xa,xt,xu,xv⟩))):=by
    refine Lh (λw' h=>?_);have h2:=iT.out w' Xc (h.2.2.2.2.1 Xc uD.out.2.1) SG.out;rw[XC,VF.out]at h2;exact h2
   have aP:Hid (kK Q Xc.p=dB.mk false kz ⟨xk,xl,xh⟩ 1 (dV Q ⟨xn,xa,xt,xu,xv⟩)):=by rw[XC];exact Lh rfl
   clear XC;have SB:Hid (QA B ov ol (qj w qb sb rb B Q m (.slice sa i sc) (.slice (some ⟨g,0,none⟩) i vc) nl') 0 w4.drew):=by
    have hB:=(Below.refl w4.heap.size w4).drew;refine Lh ⟨H4.out.1.below hB,?_,λ_=>⟨H4.out.2.1.far hB,λy hy=>(H4.out.2.2 y hy).below hB⟩⟩;have h1:=(H4.out.1.below hB).2.2.2.2.2.size;have h2:=(H4.out.1.below hB).2.2.2.1.Pn.1;obtain⟨_,cs,h3⟩:=(H4.out.1.below hB).2.2.2.1.Pn;have h4:=(Array.getElem?_eq_some_iff.1 h3).1;omega
   go_upto_region 14 with(fail);refine dZ (λi=>([]:List Nat).contains i) (by kernel_rfl) (NoF (NoF (NoF [some 0,none]))) [15] (DT (ov::([.slice (some ⟨g,0,none⟩) i vc,.int .i64 (k:Int),.pointer (some ⟨g,k*8,none⟩),.pointer (some ⟨g,k*8,none⟩),.agg #[Sv xk,.int .i64 xl,.int .i64 xh],.agg #[.int .i64 kind,.int .i64 size,.int .i64 slide,.int .i64 late,.int .i64 agg,.int .i64 kq],.slice (some ⟨g,0,none⟩) i vc,.int .i64 (k:Int),.pointer (some ⟨g,k*8,none⟩),.pointer (some ⟨g,k*8+3,none⟩),.agg #[.int .i64 xn,.int .i64 xa,Su,xz],undef,undef,undef,undef,undef]:List Value)) (Q6 B ol (dB.mk false kz ⟨xk,xl,xh⟩ (1) (dV Q ⟨xn,xa,xt,xu,xv⟩)) 12 13 14 15 16)) (QA B ov ol (qj w qb sb rb B Q m (.slice sa i sc) (.slice (some ⟨g,0,none⟩) i vc) nl')) (λw w'=>Bw w w') (lX _ _ M7) (by kernel_rfl) (by kernel_rfl) (by kernel_rfl) SB.out (λ_=>⟨rfl,rfl,rfl,rfl,rfl,rfl,rfl,rfl,rfl,rfl,rfl,rfl,rfl,rfl,rfl,rfl,rfl,trivial⟩) (λ_ h=>by simp at h) ?_ ?_
   ·refine ⟨?_,?_,?_,?_,?_,?_,?_,?_,?_,?_,?_,?_,?_,?_,?_,?_,?_,trivial⟩<;>(first|(intro _ k_ a w' hG Si Sj K hK;guard_hyp w':World)|intro _ a w' hG Si Sj K hK)<;>replace Si:=Lh Si<;>replace Sj:=Lh Sj
    have q9:=FoA Si 9 ov;rotate_left;have q8:=FoA Si 8 (.slice (some ⟨g,0,none⟩) i vc);rotate_left;have XV:=FiA Si 10 k;rotate_left;have q66:=Ep a 66 (.slice (some ⟨g,0,none⟩) i vc) Sj.out.1;have q67:=Pi a 67 k Sj.out.2.1;have hk0:=iL.out;rotate_left;have q68:=Ep a 68 (.pointer (some ⟨g,k*8,none⟩)) Sj.out.1;rotate_left;have Uq:=Ep a 69 (.pointer (some ⟨g,k*8,none⟩)) Sj.out.1;obtain⟨c0,c1,c2,c3,c4,c5,c6⟩:=WM.out w' hG.1;rotate_left;have q3:=FaA Si 3 qb 0;obtain⟨d0,d1,d2,d3,d4,d5⟩:=SV.out w' hG.1.1;rotate_left;have q8:=FoA Si 8 (.slice (some ⟨g,0,none⟩) i vc);rotate_left;have XV:=FiA Si 10 k;rotate_left;have AY:=Ep a 72 (.slice (some ⟨g,0,none⟩) i vc) Sj.out.1;have iG:=Pi a 73 k Sj.out.2.1;have hk0:=iL.out;rotate_left;have AZ:=Ep a 74 (.pointer (some ⟨g,k*8,none⟩)) Sj.out.1;rotate_left;have A7:=Ep a 75 (.pointer (some ⟨g,k*8+3,none⟩)) Sj.out.1;obtain⟨c0,c1,c2,c3,c4,c5,c6⟩:=WM.out w' hG.1;rotate_left
    ·have AX:=Ep a 71 (.agg #[.int .i64 kind,.int .i64 size,.int .i64 slide,.int .i64 late,.int .i64 agg,.int .i64 kq]) Sj.out.1;have iH:=Ep a 76 (.agg #[.int .i64 xn,.int .i64 xa,Su,xz]) Sj.out.2.1;have HS:=Lh (uA.out w' hG.1);go_step;refine HS.out.mono ?_;rintro e w3 ⟨tv,rfl,hI,hB⟩;exact hK _ _ hI (hG.below (λ_ _ hB_ h_=>qj.below h_ hB_) hB) hB
    ·obtain ⟨p0,p1,_⟩:=Sj.out;have r70:=(show a.eval (.tmp 70)=.agg #[Sv xk,.int .i64 xl,.int .i64 xh]from p0);obtain hI:=(show bA w' (a.eval (.tmp 77)) (dV Q ⟨xn,xa,xt,xu,xv⟩)from p1);obtain⟨sa_,sc_,hv_,_⟩:=id hI;have hb:=xL xk xl xh (1) sa_ (List.length ((dV Q ⟨xn,xa,xt,xu,xv⟩))) sc_;have hpt:(#[(2,Operand.tmp 70),(3,Operand.const (Value.int IntKind.i64 1)),(4,Operand.tmp 77)].map λ(i,x)=>(i,a.eval x)).toList=[(2,.agg #[Sv xk,.int .i64 xl,.int .i64 xh]),(3,.int .i64 (1)),(4,.slice sa_ (List.length ((dV Q ⟨xn,xa,xt,xu,xv⟩))) sc_)]:=by simp only[bgb,bgc,bge,r70,hv_];rfl
     refine wp_build 50 #[(2,.tmp 70),(3,.const (Value.int IntKind.i64 1)),(4,.tmp 77)] rfl (by rw[hpt,hb];rfl) ?_
     rw[hpt,hb];exact hK _ _ ⟨bM.mk (dB.mk false kz ⟨xk,xl,xh⟩ (1) (dV Q ⟨xn,xa,xt,xu,xv⟩)) (.slice sa_ (List.length ((dV Q ⟨xn,xa,xt,xu,xv⟩))) sc_) rfl,rfl,rfl,(show bA w' (.slice sa_ (List.length ((dV Q ⟨xn,xa,xt,xu,xv⟩))) sc_) ((dV Q ⟨xn,xa,xt,xu,xv⟩))from by rw[<-hv_];exact hI)⟩ hG Br
    ·obtain ⟨p0,_⟩:=Sj.out;obtain⟨y,hv,hy,hyg⟩:=(show ∃y:bM,a.eval (.tmp 78)=.agg y.cells/\y.o=(dB.mk false kz ⟨xk,xl,xh⟩ (1) (dV Q ⟨xn,xa,xt,xu,xv⟩))/\dO w' y from p0);have hBa:Bw w' (w'.alloc (.cells y.cells 50)):=(Below.refl _ w').alloc (bfx _) _;refine sJ (.tmp 78) rfl y hv ?_;exact hK _ _ (λ_=>⟨y,w'.heap.size,rfl,hy,bg5 w' _,hyg.below hBa⟩) (hG.below (λ_ _ hB_ h_=>qj.below h_ hB_) hBa) hBa
    ·obtain ⟨p0,p1,_⟩:=Sj.out;have r65:=(show a.eval (.tmp 65)=ov from p0);obtain hh:=(show(0=0->∃(y:bM) (g_:Nat),a.eval (.tmp 79)=.slice (some ⟨g_,0,none⟩) 1 1/\y.o=(dB.mk false kz ⟨xk,xl,xh⟩ (1) (dV Q ⟨xn,xa,xt,xu,xv⟩))/\jN w' g_ y/\dO w' y)from p1);obtain⟨y,g_,hv,hy,hrow,hyg⟩:=hh rfl;obtain⟨hr,hbs,ho_⟩:=hG;obtain⟨hO,Zf⟩:=ho_ rfl;refine rF (.tmp 65) (.tmp 79) rfl B ov ol [y] r65 hO (some ⟨g_,0,none⟩) 1 1 rfl hv (gH.one (λj z hz=>hrow.cell j hz)) (by have:=HO.out.2.1.short;rw[bfz,HN.out.2.1]at this;simp;omega) hbs ?_
     intro v' w'' k1 k2 k3;exact hK v' w'' ⟨bfx _,y,hy,k1,λz hz=>by rcases List.mem_append.1 hz with hz | hz;exact bA.ww (Zf z hz) hO k2;rw[List.mem_singleton.1 hz];exact bA.ww hyg hO k2⟩ ⟨qj.ww SA.out.1 hr hO k2,bgn hbs k2.size,λe=>absurd e (by decide)⟩ (gN _ (F5 hO k2))
    ·obtain ⟨p0,_⟩:=Sj.out;obtain⟨hf0,y,hf1,hf2,hf3⟩:=(show 1<=k_/\∃y:bM,y.o=(dB.mk false kz ⟨xk,xl,xh⟩ (1) (dV Q ⟨xn,xa,xt,xu,xv⟩))/\fe w' B (a.eval (.tmp 80)) (ol++[y])/\∀z∈ol++[y],dO w' z from p0);obtain⟨v5,hv5⟩:∃v,a.eval (.tmp 80)=v:=⟨_,rfl⟩;rw[hv5]at hf2;have E8:=bf hv5;go_step;exact hK _ _ ⟨hf0,y,hf1,hf2,hf3⟩ hG Br
    all_goals(go_step;exact hK _ _ rfl hG Br)
   intro vs w5 hG hlen hV
   match vs,hlen,hV with
   | [v0,v1,v2,v3,v4,v5,v6,v7,v8,v9,v10,v11,v12,v13,v14,v15,v16],_,hV=>
    obtain⟨_,y,hfo,hf1,hf3⟩:=(show 1<=1/\∃y:bM,y.o=(dB.mk false kz ⟨xk,xl,xh⟩ (1) (dV Q ⟨xn,xa,xt,xu,xv⟩))/\fe w5 B v16 (ol++[y])/\∀z∈ol++[y],dO w5 z from hV 16 9 v16 rfl rfl);have hr:=hG.1;clear hV hG;obtain⟨a9,c9,YA,_,_⟩:=hf1.form;have HZ:Hid (Nt w qb sb rb B Q m t (.slice sa i sc) ps (.slice (some ⟨g,0,none⟩) i vc) v16 w5/\JN v16=ol.length+1/\ol.length+1<=i):=by
     have e:(ol++[y]).map bM.o=ol.map bM.o++[kK Q Xc.p]:=by rw[bgl,List.map_singleton,hfo,aP.out]
     have hs:=YV.out.1.short;rw[bft,bfz,bg0,HN.out.2.1]at hs;refine Lh ⟨⟨nl',ol++[y],by rw[HN.out.2.1];exact uD.out.2.2.symm,by rw[e];exact YV.out.1,by rw[e];exact YV.out.2,hr,hf1,hf3⟩,?_,hs⟩
     rw[YA,bft];rfl
    clear hr hf1 hf3 YA hlen;simp only[dG,bf7,bf1];simp only[Act.put,bfw,bfu,bfv];go_wp2_with(fail);go_roundw
    case rel=>exact HZ.out.1
    case measure=>rw[HZ.out.2.1,HO.out.2.2.2.2.2.1];have:=HZ.out.2.2;simp only[JN];omega
end Go.Proofs.YtjeeghafachebaaGreat
