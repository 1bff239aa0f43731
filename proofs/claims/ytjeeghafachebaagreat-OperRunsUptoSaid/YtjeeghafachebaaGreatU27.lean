/-
  27.
-/
import Derived.Test.YtjeeghafachebaaGreatU23
import Derived.Test.YtjeeghafachebaaGreatU26
namespace Go.Proofs.YtjeeghafachebaaGreat
open Go Go.RowKit
theorem lS {α:Type} {R:α->α->Prop}(om:∀a,¬R a a)(uJ:∀a b,R a b->R b a->False):∀{l m:List α},l.Pairwise R->m.Pairwise R->(∀x,x∈l↔x∈m)->l=m
 | [],[],_,_,_=>rfl
 | [],y::m,_,_,h=>absurd ((h y).2 (by simp)) (by simp)
 | x::l,[],_,_,h=>absurd ((h x).1 (by simp)) (by simp)
 | x::l,y::m,hl,hm,h=>by
  rw[List.pairwise_cons]at hl hm;have e:x=y:=by
   rcases List.mem_cons.1 ((h x).1 (by simp))with e | hx
   ·exact e
   rcases List.mem_cons.1 ((h y).2 (by simp))with e | hy
   ·exact e.symm
   exact(uJ _ _ (hm.1 x hx) (hl.1 y hy)).elim
  subst e
  congr 1
  refine lS om uJ hl.2 hm.2 λz=>?_;have hz:=h z;simp only[bf2]at hz;constructor
  ·intro h1;rcases hz.1 (.inr h1)with rfl | h2
   ·exact(om _ (hl.1 z h1)).elim
   exact h2
  intro h1;rcases hz.2 (.inr h1)with rfl | h2
  ·exact(om _ (hm.1 z h1)).elim
  exact h2
def kP(x y:bH):Prop:=bJ x.w y.w
theorem ll {ps:List bH}:(fI ps).Pairwise bJ↔ps.Pairwise kP:=by
 unfold fI;rw[List.pairwise_map];exact Iff.rfl
theorem three {ps:List bH} {g:bH->Bool} {b:bg}(hs:ps.Pairwise kP)(h1:∀x∈ps,g x=false->bJ x.w b->∀y∈ps,g y=true->bJ x.w y.w)
  (h2:∀x∈ps,g x=false->¬bJ x.w b->bJ b x.w/\∀y∈ps,g y=true->bJ y.w x.w):
  ∃A B,ps=A++ps.filter g++B/\(ps.filter λx=> !g x)=A++B/\(∀a∈A,bJ a.w b)/\∀x∈B,bJ b x.w:=by
 have om:∀a:bH,¬kP a a:=λa h=>bJ.irrefl h;have uJ:∀a b:bH,kP a b->kP b a->False:=λa b h h'=>bJ.asymm h h';obtain⟨A,hA⟩:=Nm (ps.filter (λx=> !g x && decide (bJ x.w b)));obtain⟨B,hB⟩:=Nm (ps.filter (λx=> !g x && !decide (bJ x.w b)));have mA:∀x,x∈A↔x∈ps/\g x=false/\bJ x.w b:=λx=>by rw[hA,bgv];simp
 have mB:∀x,x∈B↔x∈ps/\g x=false/\¬bJ x.w b:=λx=>by rw[hB,bgv];simp
 have mG:∀x,x∈ps.filter g↔x∈ps/\g x=true:=λx=>bgv;have pA:A.Pairwise kP:=by rw[hA];exact hs.sublist List.filter_sublist
 have pB:B.Pairwise kP:=by rw[hB];exact hs.sublist List.filter_sublist
 have pG:(ps.filter g).Pairwise kP:=hs.sublist List.filter_sublist;have cAB:∀a∈A,∀x∈B,kP a x:=λa ha x hx=>by
  have h:=(mA a).1 ha;have h':=(mB x).1 hx;exact h.2.2.trans (h2 x h'.1 h'.2.1 h'.2.2).1
 refine⟨A,B,?_,?_,λa ha=>((mA a).1 ha).2.2,λx hx=>by have h:=(mB x).1 hx;exact(h2 x h.1 h.2.1 h.2.2).1⟩
 ·refine lS om uJ hs ?_ λx=>?_
  ·rw[List.pairwise_append,List.pairwise_append];refine⟨⟨pA,pG,λa ha y hy=>?_⟩,pB,λa ha x hx=>?_⟩
   ·have h:=(mA a).1 ha;have h':=(mG y).1 hy;exact h1 a h.1 h.2.1 h.2.2 y h'.1 h'.2
   rcases List.mem_append.1 ha with ha | ha
   ·exact cAB a ha x hx
   have h:=(mG a).1 ha;have h':=(mB x).1 hx;exact(h2 x h'.1 h'.2.1 h'.2.2).2 a h.1 h.2
  simp only[bgg,mA,mB,mG];cases g x <;> by_cases h:bJ x.w b <;> simp[h]
 refine lS om uJ (hs.sublist List.filter_sublist) ?_ λx=>?_
 ·rw[List.pairwise_append];exact⟨pA,pB,cAB⟩
 simp only[bgg,mA,mB,bgv];cases g x <;> by_cases h:bJ x.w b <;> simp[h]
theorem jJ {q:bz} {ps:List bH}(h:fH q ps=true):ps.Pairwise kP:=by
 unfold fH at h
 split at h
 ·exact ll.1 ((bgh h).2.imp λh=>h.1)
 exact ll.1 (bgh h)
theorem z8 {q:bz} {ps:List bH} {W:bg}(hp:fH q ps=true)(hW:W.bB=true):
  ∃A B,ps=A++dX q ps W++B/\gK q ps W=A++B/\(∀a∈A,bJ a.w (dN q ps W))/\∀x∈B,bJ (dN q ps W) x.w:=by
 have hs:=jJ hp;unfold dX gK;by_cases hk:q.kind=3
 ·have hset:dD (fI ps):=by
   unfold fH at hp;rw[if_pos hk]at hp;exact bgh hp
  have hb:dN q ps W=became (fI ps) W:=by rw[dN,if_pos hk]
  have hg:∀x,lK q W x=dK x.w W:=λx=>by rw[lK,if_pos hk]
  rw[hb];obtain⟨b0,b1,b2,b3,b4,_⟩:=jh (l:=fI ps) hW;have rb:=cu b0;have hin:∀y∈ps,lK q W y=true->y.w.key=(became (fI ps) W).key/\(became (fI ps) W).lo<=y.w.lo/\y.w.hi<=(became (fI ps) W).hi/\y.w.lo<y.w.hi:=λy hy XD=>by
   rw[hg]at XD;have hm:y.w∈fI ps:=List.mem_map.2 ⟨y,hy,rfl⟩;have h4:=b4 y.w hm XD;have hj:=(fu _ _).1 XD;have ry:=cu hj.1;exact⟨hj.2.2.1.trans b1.symm,h4.1,h4.2,by omega⟩
  have hno:∀x∈ps,lK q W x=false->x.w.key=(became (fI ps) W).key->¬(x.w.lo<=(became (fI ps) W).hi/\(became (fI ps) W).lo<=x.w.hi):=λx hx hgx hkey h=>by
   have hm:x.w∈fI ps:=List.mem_map.2 ⟨x,hx,rfl⟩;rw[hg]at hgx;have h':=vM hset hW (mZ.2 ⟨hm,hgx⟩);rw[Bool.eq_false_iff]at h';exact h' ((fu _ _).2 ⟨hset.1 _ hm,b0,hkey,h.1,h.2⟩)
  have hlt:∀x∈ps,x.w.lo<x.w.hi:=λx hx=>by
   have:=cu (hset.1 x.w (List.mem_map.2 ⟨x,hx,rfl⟩));omega
  refine three hs (λx hx hgx ha y hy XD=>?_) (λx hx hgx ha=>?_)
  ·obtain⟨y1,y2,y3,y4⟩:=hin y hy XD;rcases ha with ha | ⟨hk',ha⟩
   ·exact .inl (by rw[y1];exact ha)
   have h:=hno x hx hgx hk';have:=hlt x hx;exact .inr ⟨hk'.trans y1.symm,.inl (by omega)⟩
  have hne:x.w≠became (fI ps) W:=λe=>by
   refine hno x hx hgx (by rw[e]) ?_
   rw[e];omega
  have hab:bJ (became (fI ps) W) x.w:=(mJ hne).resolve_left ha;refine⟨hab,λy hy XD=>?_⟩;obtain⟨y1,y2,y3,y4⟩:=hin y hy XD;rcases hab with hab | ⟨hk',hab⟩
  ·exact .inl (by rw[y1];exact hab)
  have h:=hno x hx hgx hk'.symm;have:=hlt x hx;exact .inr ⟨y1.trans hk',.inl (by omega)⟩
 ·have hb:dN q ps W=W:=by rw[dN,if_neg hk]
  have hg:∀x,lK q W x=decide (x.w=W):=λx=>by rw[lK,if_neg hk]
  rw[hb];refine three hs (λx hx hgx ha y hy XD=>?_) (λx hx hgx ha=>?_)
  ·rw[hg,bf0]at XD;rw[XD];exact ha
  rw[hg,decide_eq_false_iff_not]at hgx;have h:=(mJ hgx).resolve_left ha;refine⟨h,λy hy XD=>?_⟩;rw[hg,bf0]at XD;rw[XD];exact h
theorem Fq(l:List bg)(w:bg):(lJ l w).length=(l.filter λo=>dK o w).length:=by
 have e:l=(List.range l.length).map (λi=>l.getD i bX):=by
  apply List.ext_getElem?;intro i;rw[bgf];by_cases h:i<l.length
  ·rw[List.getElem?_range h,Option.map_some,List.getD_eq_getElem?_getD,bfs h];rfl
  rw[bgk (by omega),bgk (by simpa using h)]
  rfl
 conv=>rhs;rw[e,List.filter_map,bfz]
 rfl
theorem LU {q:bz}(hk:q.kind=3)(ps:List bH)(W:bg):((fI ps).filter λo=>dK o W).length=(dX q ps W).length:=by
 unfold fI dX;rw[List.filter_map,bfz]
 congr 1
 apply List.filter_congr;intro x _;rw[lK,if_pos hk];rfl
theorem Mw {q:bz}(hk:q.kind=3)(ps:List bH)(W:bg):kH (fI ps) W=fI (gK q ps W):=by
 unfold fI gK kH;rw[List.filter_map]
 congr 1
 apply List.filter_congr;intro x _;rw[lK,if_pos hk];rfl
theorem D5(A B:List bg)(i:Nat):(i<A.length->pX (A++B) i∈A)/\(A.length<=i->i<A.length+B.length->pX (A++B) i∈B):=by
 constructor
 ·intro h;rw[fF (x:=A[i]) (by rw[List.getElem?_append_left h,bfs h])]
  exact List.getElem_mem h
 intro h h';rw[fF (x:=B[i-A.length]'(by omega)) (by rw[List.getElem?_append_right h,bfs])]
 exact List.getElem_mem _
theorem yQ {A B:List bg} {b:bg}(hA:∀a∈A,bJ a b)(hB:∀x∈B,¬bJ x b):ky (A++B) b A.length:=by
 refine⟨by simp,λi hi=>hA _ ((D5 A B i).1 hi),λi h1 h2=>hB _ ((D5 A B i).2 h1 (by simpa using h2))⟩
theorem GX {l:List bg} {t:bg} {p p':Nat}(h:ky l t p)(h':ky l t p'):p=p':=by
 obtain⟨a1,a2,a3⟩:=h;obtain⟨b1,b2,b3⟩:=h';rcases Nat.lt_trichotomy p p' with h | h | h
 ·exact absurd (b2 p h) (a3 p (bfx _) (by omega))
 ·exact h
 exact absurd (a2 p' h) (b3 p' (bfx _) (by omega))
theorem wL {q:bz} {ps A B:List bH} {W:bg}(hk:q.kind=3)(hp:fH q ps=true)(hW:W.bB=true)(hR:gK q ps W=A++B)(hA:∀a∈A,bJ a.w (dN q ps W))(hB:∀x∈B,bJ (dN q ps W) x.w):
  pV (fI ps) W=(fI A++dN q ps W::fI B,dN q ps W,lJ (fI ps) W)/\(lJ (fI ps) W).length=(dX q ps W).length/\dN q ps W ∉ fI A:=by
 have hset:dD (fI ps):=by
  unfold fH at hp;rw[if_pos hk]at hp;exact bgh hp
 have hb:dN q ps W=became (fI ps) W:=by rw[dN,if_pos hk]
 have hr:kH (fI ps) W=fI A++fI B:=by rw[Mw hk,hR,fI,bgl];rfl
 have mem:∀{L:List bH} {x:bg},x∈fI L->∃y∈L,y.w=x:=λh=>List.mem_map.1 h;rw[hb]at hA hB ⊢;refine⟨?_,by rw[Fq,LU hk],λh=>?_⟩
 ·have hpl:ky (kH (fI ps) W) (became (fI ps) W) (fI A).length:=by
   rw[hr];refine yQ (λa ha=>?_) (λx hx hc=>?_)
   ·obtain⟨y,hy,rfl⟩:=mem ha;exact hA y hy
   obtain⟨y,hy,rfl⟩:=mem hx;exact(hB y hy).asymm hc
  have ht:=xB hset hW hpl;rw[hr,List.take_left' rfl,List.drop_left' rfl]at ht;rw[tY hset hW,<-ht];simp
 ·obtain⟨y,hy,e⟩:=mem h;have:=hA y hy;rw[e]at this;exact this.irrefl
theorem JI {q:bz} {ps A B:List bH} {W:bg} {p:Nat} {b:Bool}(hk:q.kind≠3)(hp:fH q ps=true)(hS:ps=A++dX q ps W++B)(hA:∀a∈A,bJ a.w (dN q ps W))(hB:∀x∈B,bJ (dN q ps W) x.w)
  (h1:ky (fI ps) W p) (h2:b=true↔p<(fI ps).length/\pX (fI ps) p=W):dN q ps W=W/\p=A.length/\(dX q ps W).length=if b=true then 1 else 0:=by
 have hb:dN q ps W=W:=by rw[dN,if_neg hk]
 rw[hb]at hA hB;have hG:∀x∈dX q ps W,x.w=W:=λx hx=>by
  have:=(List.mem_filter.1 hx).2;rw[lK,if_neg hk]at this;exact bgh this
 have hs:=jJ hp;have uP:(dX q ps W).Pairwise kP:=hs.sublist List.filter_sublist;have mem:∀{L:List bH} {x:bg},x∈fI L->∃y∈L,y.w=x:=λh=>List.mem_map.1 h;obtain⟨G,hGe⟩:=Nm (dX q ps W);rw[<-hGe]at hS hG uP ⊢;have hws:fI ps=fI A++(fI G++fI B):=by
  rw[hS];simp[fI]
 have hpl:ky (fI ps) W (fI A).length:=by
  rw[hws];refine yQ (λa ha=>?_) (λx hx hc=>?_)
  ·obtain⟨y,hy,rfl⟩:=mem ha;exact hA y hy
  rcases List.mem_append.1 hx with hx | hx
  ·obtain⟨y,hy,rfl⟩:=mem hx;rw[hG y hy]at hc;exact hc.irrefl
  obtain⟨y,hy,rfl⟩:=mem hx;exact(hB y hy).asymm hc
 have Am:p=(fI A).length:=GX h1 hpl;have uM:(fI A).length=A.length:=by simp[fI]
 refine⟨hb,by rw[Am,uM],?_⟩
 cases hb':b with
 | true=>
  obtain⟨hlt,hat⟩:=h2.1 hb';rw[if_pos rfl]
  match hm:G,hG,uP with
  | [],_,_=>
   rw[Am,hws,show fI ([]:List bH)=[]from rfl,List.nil_append]at hat;rw[Am,hws,show fI ([]:List bH)=[]from rfl,List.nil_append,bft]at hlt;have:=(D5 (fI A) (fI B) (fI A).length).2 (bfx _) hlt;rw[hat]at this;obtain⟨y,hy,e⟩:=mem this;have:=hB y hy;rw[e]at this;exact this.irrefl.elim
  | [x],_,_=>rfl
  | x::y::r,hG,uP=>
   rw[List.pairwise_cons]at uP;have:=uP.1 y (by simp)
   unfold kP at this;rw[hG x (by simp),hG y (by simp)]at this
   exact this.irrefl.elim
 | false=>
  rw[if_neg (by simp)]
  match hm:G,hG with
  | [],_=>rfl
  | x::r,hG=>
   exfalso
   have hx:=hG x (by simp)
   have:b=true:=h2.2 ⟨by rw[Am,hws];simp[fI],by
    rw[Am,hws];refine fF ?_;rw[List.getElem?_append_right (bfx _),Nat.sub_self];simp[fI,hx]⟩
   rw[hb']at this;cases this
theorem P7 {A B:List bH} {p:bH}(hA:∀a∈A,bJ a.w p.w)(hB:∀x∈B,bJ p.w x.w):jR (A++B) p=A++p::B:=by
 induction A with
 | nil=>
  cases B with
  | nil=>rfl
  | cons x B=>
   show(if bJ p.w x.w then p::x::B else x::jR B p)=_
   rw[if_pos (hB x (by simp))]
   rfl
 | cons a A ih=>
  show(if bJ p.w a.w then p::a::(A++B)else a::jR (A++B) p)=_
  rw[if_neg (λh=>bJ.asymm (hA a (by simp)) h),ih (λx hx=>hA x (by simp[hx]))]
  rfl
theorem J6 {q:bz} {ps A B:List bH} {W:bg} {p:bH}(hp:fH q ps=true)(hW:W.bB=true)(hr:gK q ps W=A++B)
  (hA:∀a∈A,bJ a.w (dN q ps W)) (hB:∀x∈B,bJ (dN q ps W) x.w) (hw:p.w=dN q ps W):fH q (A++p::B)=true:=by
 by_cases hk:q.kind=3
 ·obtain⟨t1,_,_⟩:=wL hk hp hW hr hA hB;have hset:dD (fI ps):=by
   unfold fH at hp;rw[if_pos hk]at hp;exact bgh hp
  rw[tY hset hW]at t1;have e:fI (A++p::B)=mq (fI ps) W:=by
   rw[(Prod.mk.inj t1).1,fI,bgl,bgc,hw];rfl
  unfold fH;rw[if_pos hk,e];exact bfr (vT hset hW).1
 have hs:(A++B).Pairwise kP:=by
  rw[<-hr,gK];exact(jJ hp).sublist List.filter_sublist
 rw[List.pairwise_append]at hs;unfold fH;rw[if_neg hk];refine bfr (ll.2 ?_);rw[List.pairwise_append,List.pairwise_cons];refine⟨hs.1,⟨λx hx=>?_,hs.2.1⟩,λa ha x hx=>?_⟩
 ·show bJ p.w x.w;rw[hw];exact hB x hx
 rcases List.mem_cons.1 hx with rfl | hx
 ·show bJ a.w x.w;rw[hw];exact hA a ha
 exact hs.2.2 a ha x hx
theorem xS {q:bz} {x y:dS}(h:(dA q x y).2=0):(dA q x y).1.bB q=true:=by
 unfold dA at h ⊢
 split at h
 ·rename_i h1;rw[if_pos h1]
  split at h
  ·rename_i h2;rw[if_pos h2];exact h2.2
  cases h
 cases h
theorem PQ {q:bz} {x:dS} {v:Int}(h:(jV q x v).2=0):(jV q x v).1.bB q=true:=by
 unfold jV at h ⊢
 split at h
 ·rename_i h1;rw[if_pos h1];exact xS h
 cases h
theorem Fs {q:bz} {b:bg}:∀(l:List bH) (p:dS × Int),(0<=p.2/\p.2<=1073741824)->(∀o∈l,0<=o.r/\o.r<=1073741824)->0<=(dY q b l p).2.1/\(dY q b l p).2.1<=1073741824
 | [],p,h,_=>h
 | o::l,p,h,hl=>by
  unfold dY
  split
  ·refine Fs l _ ?_ λx hx=>hl x (by simp[hx])
   simp only
   split
   ·exact hl o (by simp)
   exact h
  simp
theorem tK {q:bz} {b:bg} {l:List bH} {v:Int}(h:(dJ q b l v).2=0)(hl:∀o∈l,0<=o.r/\o.r<=1073741824):
  (dJ q b l v).1.w=b/\(0<=(dJ q b l v).1.r/\(dJ q b l v).1.r<=1073741824)/\(dJ q b l v).1.a.bB q=true:=by
 unfold dJ at h ⊢
 split at h
 ·rename_i h1;rw[if_pos h1]
  split at h
  ·rename_i h2;rw[if_pos h2];exact⟨rfl,Fs l _ (by simp) hl,PQ h2⟩
  rename_i h2;exact absurd h h2
 rename_i h1;exact absurd h h1
def dL(q:bz)(l:List bH)(n:Nat):Prop:=fH q l=true/\(∀x∈l,(0<=x.r/\x.r<=1073741824)/\x.w.key.length<=1000000/\x.a.top.length<=1000000)/\l.length<=n
theorem zH {q:bz} {l:List bH} {W:bg}(hW:W.bB=true):(dN q l W).key=W.key:=by
 rw[dN]
 split
 ·exact(jh (l:=fI l) hW).2.1
 rfl
theorem dL.ins {q:bz} {ps A B:List bH} {W:bg} {n:Nat} {v mark:Int}(h:dL q ps n)(hW:W.bB=true)(iX:W.key.length<=1000000)(hr:gK q ps W=A++B)
  (hA:∀a∈A,bJ a.w (dN q ps W)) (hB:∀x∈B,bJ (dN q ps W) x.w) (he:(dJ q (dN q ps W) (dX q ps W) v).2=0)
  (hR:¬1073741824<(fC (dJ q (dN q ps W) (dX q ps W) v).1 mark).r):
  dL q (A++fC (dJ q (dN q ps W) (dX q ps W) v).1 mark::B) (n+1)/\jR (gK q ps W) (fC (dJ q (dN q ps W) (dX q ps W) v).1 mark)=A++fC (dJ q (dN q ps W) (dX q ps W) v).1 mark::B:=by
 obtain⟨k1,k2,k3⟩:=tK he (λo ho=>((h.2.1 o (List.mem_filter.1 ho).1).1));have hf:(fC (dJ q (dN q ps W) (dX q ps W) v).1 mark).w=dN q ps W/\(fC (dJ q (dN q ps W) (dX q ps W) v).1 mark).a.bB q=true/\0<=(fC (dJ q (dN q ps W) (dX q ps W) v).1 mark).r:=by
  unfold fC
  split
  ·exact⟨k1,k3,by show 0<=_+1;omega⟩
  exact⟨k1,k3,k2.1⟩
 obtain⟨p,hp⟩:=Nm (fC (dJ q (dN q ps W) (dX q ps W) v).1 mark);rw[<-hp]at hf hR ⊢;refine⟨⟨J6 h.1 hW hr hA hB hf.1,λx hx=>?_,?_⟩,by rw[hr];exact P7 (by rw[hf.1];exact hA) (by rw[hf.1];exact hB)⟩
 ·have hold:∀x∈A++B,(0<=x.r/\x.r<=1073741824)/\x.w.key.length<=1000000/\x.a.top.length<=1000000:=λx hx=>by
   rw[<-hr]at hx;exact h.2.1 x (List.mem_filter.1 hx).1
  rcases List.mem_append.1 hx with hx | hx
  ·exact hold x (List.mem_append.2 (.inl hx))
  rcases List.mem_cons.1 hx with rfl | hx
  ·have hb:=fM hf.2.1;exact⟨⟨hf.2.2,by omega⟩,by rw[hf.1,zH hW];exact iX,by omega⟩
  exact hold x (List.mem_append.2 (.inr hx))
 ·have hl:(A++B).length<=ps.length:=by rw[<-hr];exact List.length_filter_le _ _
  have:=h.2.2;simp only[bft,bgy]at hl ⊢;omega
theorem l5 {q:bz} {mark v:Int} {ws:List bg} {c0 c:kg} {i:Nat} {W:bg}(h:dC q mark v ws c0=dC q mark v (ws.drop i) c)(hW:ws[i]? =some W):
  dC q mark v ws c0=if (kW q mark v c W).e=0 then dC q mark v (ws.drop (i+1)) (kW q mark v c W)else kW q mark v c W:=by
 rw[h,List.drop_eq_getElem?_toList_append,hW];rfl
theorem Dy {q:bz} {mark v:Int} {ws:List bg} {c0 c:kg} {i:Nat}(h:dC q mark v ws c0=dC q mark v (ws.drop i) c)(hi:¬i<ws.length):dC q mark v ws c0=c:=by
 rw[h,List.drop_eq_nil_of_le (by omega)]
 rfl
theorem dL.mono {q:bz} {l:List bH} {n k:Nat}(h:dL q l n)(hk:n<=k):dL q l k:=⟨h.1,h.2.1,bgn h.2.2 hk⟩
theorem xW {q:bz} {s:di}(h:fQ q s=true):dL q s.panes 256:=by
 unfold fQ at h;simp only[bf8,bf0,bgt]at h;obtain⟨_,_,h3,h4,h5⟩:=h;refine⟨h5,λx hx=>?_,h3⟩;obtain⟨h6,h7⟩:=h4 x hx;unfold jY at h6;unfold kY at h7;simp only[bf8,bf0]at h6 h7;have ha:=fM h6.2.2.2;have hw:=cu h6.1;refine⟨h7.2.1,?_,by omega⟩
 omega
theorem zy {q:bz} {mark v:Int} {c:kg} {W:bg} {n:Nat}(h:dL q c.panes n)(hW:W.bB=true/\W.key.length<=1000000)(he:(kW q mark v c W).e=0):dL q (kW q mark v c W).panes (n+1):=by
 unfold kW at he ⊢
 split at he
 ·rename_i h1;rw[if_pos h1];exact h.mono (by omega)
 rename_i h1;rw[if_neg h1]
 split at he
 ·rename_i h2;exact absurd he h2
 rename_i h2;rw[if_neg h2]
 split at he
 ·cases he
 rename_i h3;rw[if_neg h3];obtain⟨A,B,_,hr,hA,hB⟩:=z8 h.1 hW.1;obtain⟨k1,k2⟩:=h.ins hW.1 hW.2 hr hA hB (Decidable.not_not.1 h2) h3;show dL q (jR _ _) _;rw[k2];exact k1
theorem Hz {q:bz} {mark v:Int}:∀(ws:List bg) (c:kg) (n:Nat),dL q c.panes n->(∀W∈ws,W.bB=true/\W.key.length<=1000000)->(dC q mark v ws c).e=0->dL q (dC q mark v ws c).panes (n+ws.length)
 | [],_,_,h,_,_=>h
 | W::ws,c,n,h,hW,he=>by
  unfold dC at he ⊢
  split at he
  ·rename_i h1;rw[if_pos h1];have h2:=Hz ws _ (n+1) (zy h (hW W (by simp)) h1) (λx hx=>hW x (by simp[hx])) he
   rw[bgy,show n+(ws.length+1)=n+1+ws.length by omega]
   exact h2
  rename_i h1;exact absurd he h1
theorem NP {q:bz} {s:di} {x:bN}(h:dL q s.panes 256)(hk:x.key.length<=1000000)(he:(gQ q s x).2.2=0):dL q (gQ q s x).1.panes 256:=by
 unfold gQ at he ⊢
 split at he
 ·rename_i h1;exact absurd he h1
 rename_i h1;rw[if_neg h1]
 split at he
 ·rename_i h2;rw[if_pos h2];exact h
 rename_i h2;rw[if_neg h2]
 split at he
 ·cases he
 rename_i h3;rw[if_neg h3];have h4:=Hz (lM q x.key x.time) ⟨s.panes,[],true,0⟩ 256 h (λW hW=>by obtain⟨_,k1,_,_,_,k2⟩:=qx hW;exact⟨k1,by rw[k2];exact hk⟩) (Decidable.not_not.1 h1)
 exact⟨h4.1,h4.2.1,Nat.le_of_not_lt h3⟩
theorem nD(t:Int)(p:bH):(jc t p).w=p.w/\(jc t p).a=p.a:=by
 unfold jc
 split <;> exact⟨rfl,rfl⟩
theorem Pb {q:bz} {s:di} {t:Int} {n:Nat}(h:dL q s.panes n):dL q (gY q s t).1.panes n:=by
 unfold gY
 split
 ·exact h
 show dL q (kT q t s.panes) n;have hsub:(fI (kT q t s.panes)).Sublist (fI s.panes):=by
  have e:fI (s.panes.map (jc t))=fI s.panes:=by
   unfold fI;rw[List.map_map];exact List.map_congr_left λx _=>(nD t x).1
  rw[<-e];exact List.filter_sublist.map _
 refine⟨?_,λx hx=>?_,?_⟩
 ·have hp:=h.1;unfold fH at hp ⊢;by_cases hk:q.kind=3
  ·rw[if_pos hk]at hp ⊢;have hs:=bgh hp;exact bfr ⟨λx hx=>hs.1 x (hsub.subset hx),hs.2.sublist hsub⟩
  rw[if_neg hk]at hp ⊢;exact bfr ((bgh hp).sublist hsub)
 ·obtain⟨y,hy,rfl⟩:=List.mem_map.1 (List.mem_filter.1 hx).1;obtain⟨k1,k2,k3⟩:=h.2.1 y hy;rw[(nD t y).1,(nD t y).2];refine⟨?_,k2,k3⟩;unfold jc
  split
  ·show(0:Int)<=1/\(1:Int)<=1073741824;decide
  exact k1
 have h1:=List.length_filter_le (λp=> !gy q p.w t) (s.panes.map (jc t));rw[bfz]at h1;exact bgn h1 h.2.2
theorem BP {q:bz} {s:di} {x:bN}(h:dL q s.panes 256)(hk:x.key.length<=1000000)(he:(dR q s x).2.2=0):dL q (dR q s x).1.panes 256:=by
 unfold dR at he ⊢
 split at he
 ·rename_i h1;rw[if_pos h1]
  split at he
  ·rename_i h2;rw[if_pos h2];exact NP h hk he
  rename_i h2;rw[if_neg h2];exact Pb h
 cases he
theorem M0 {q:bz} {mark v:Int} {c:kg} {W:bg}:(kW q mark v c W).outs.length<=c.outs.length+1:=by
 unfold kW
 split
 ·omega
 split
 ·simp
 split
 ·simp
 rw[bft]
 split <;> simp
theorem Cb {q:bz} {mark v:Int}:∀(ws:List bg) (c:kg),(dC q mark v ws c).outs.length<=c.outs.length+ws.length
 | [],_=>by simp[dC]
 | W::ws,c=>by
  have h1:=M0 (q:=q) (mark:=mark) (v:=v) (c:=c) (W:=W);unfold dC
  split
  ·have h2:=Cb (q:=q) (mark:=mark) (v:=v) ws (kW q mark v c W);rw[bgy];omega
  rw[bgy];omega
theorem FP(l:List dB):(pU l).length=l.length:=by
 have hi:∀(l:List dB) (x:dB),(si l x).length=l.length+1:=by
  intro l x
  induction l with
  | nil=>rfl
  | cons y l ih=>
   unfold si
   split
   ·rfl
   rw[bgy,ih,bgy]
 have h:∀(l acc:List dB),(l.foldl si acc).length=acc.length+l.length:=by
  intro l
  induction l with
  | nil=>intro acc;rfl
  | cons y l ih=>
   intro acc;rw[List.foldl_cons,ih,hi,bgy];omega
 unfold pU;rw[h];simp
theorem vS {q:bz} {s:di} {x:bN} {n:Nat}(h:s.panes.length<=n)(hn:16<=n):(dR q s x).2.1.length<=n:=by
 unfold dR
 split
 ·split
  ·unfold gQ;have h1:=Cb (q:=q) (mark:=s.mark) (v:=x.value) (lM q x.key x.time) ⟨s.panes,[],true,0⟩;have h2:=wS q x.key x.time;simp only[List.length_nil]at h1
   split
   ·simp
   split
   ·simp;omega
   split
   ·simp
   show(dC _ _ _ _ _).outs.length<=n;omega
  unfold gY
  split
  ·simp
  show(pU (gZ q x.time s.panes)).length<=n;rw[FP,gZ,bfz];exact bgn (List.length_filter_le _ _) h
 simp
theorem Ph {q:bz} {key:List (BitVec 8)} {t:Int} {W:bg}(hk:q.kind≠3)(hW:W∈lM q key t):W∈lM q W.key W.lo:=by
 obtain⟨hq,hr,hlo,_,_,hkey⟩:=qx hW;have rw0:=cu hr;unfold lM at hW
 split at hW
 ·rename_i hok;simp only[jS,bf8,bf0]at hok;obtain⟨s1,s2,s3,s4,s5⟩:=jk hq;obtain⟨i,hi,rfl⟩:=List.mem_map.1 hW;obtain⟨b1,b2,b3⟩:=p9 hq hok.2.1;obtain⟨k,hke⟩:=Nm (xH q t+(i:Int));rw[<-hke]at hlo hr hkey rw0 ⊢;have hk0:0<=k:=by omega
  have hl:(nQ q key k).lo=k*dM q:=rfl;have hky:(nQ q key k).key=key:=rfl;rw[hl]at hlo rw0;rw[hl,hky];have hok2:jS q key (k*dM q)=true:=by
   simp only[jS,bf8,bf0];exact⟨⟨hq,hok.1.2⟩,by omega⟩
  have hdiv:k*dM q / dM q=k:=Int.mul_ediv_cancel k (by omega)
  have hlk:xH q (k*dM q)<=k:=(qw hq (t:=k*dM q) k (by omega)).1 (by omega)
  unfold lM;rw[if_pos hok2,if_neg hk,hdiv];refine List.mem_map.2 ⟨(k-xH q (k*dM q)).toNat,List.mem_range.2 (by omega),?_⟩
  congr 1
  omega
 simp at hW
theorem Pg {q:bz} {x y:dS}(h:(dA q x y).2=0):(dA q x y).1.n=x.n+y.n/\x.bB q=true/\y.bB q=true:=by
 unfold dA at h ⊢
 split at h
 ·rename_i h1;rw[if_pos h1]
  split at h
  ·rename_i h2;rw[if_pos h2];exact⟨rfl,h1⟩
  cases h
 cases h
theorem QN {q:bz} {x:dS} {v:Int}(h:(jV q x v).2=0):0<(jV q x v).1.n:=by
 unfold jV at h ⊢
 split at h
 ·rename_i h1;rw[if_pos h1];obtain⟨k1,k2,_⟩:=Pg h;have:=fM k2;rw[k1];show 0<x.n+1;omega
 cases h
theorem zV {q:bz} {b:bg} {mark:Int}(hb:ji b mark=false):∀(l:List bH) (p:dS × Int),p.2=0->(∀o∈l,kY q o mark=true)->(dY q b l p).2.1=0
 | [],p,h,_=>h
 | o::l,p,h,hl=>by
  unfold dY
  split
  ·refine zV hb l _ ?_ λx hx=>hl x (by simp[hx])
   simp only
   split
   ·rename_i he;have ho:=hl o (by simp)
    unfold kY at ho;simp only[bf8,bf0,beq_iff_eq]at ho;have h2:=ho.2.2;rw[he,hb]at h2;have:=of_decide_eq_false h2.symm;omega
   exact h
  rfl
def mf(q:bz)(mark:Int)(l:List bH):Prop:=∀p∈l,jY q p=true/\kY q p mark=true
theorem N7 {l:List bH} {p x:bH}(h:x∈jR l p):x=p∨x∈l:=by
 induction l with
 | nil=>exact .inl (List.mem_singleton.1 h)
 | cons y l ih=>
  unfold jR at h
  split at h
  ·rcases List.mem_cons.1 h with h | h
   ·exact .inl h
   exact .inr h
  rcases List.mem_cons.1 h with h | h
  ·exact .inr (by simp[h])
  rcases ih h with h | h
  ·exact .inl h
  exact .inr (by simp[h])
theorem Ca {q:bz} {mark v:Int} {c:kg} {W:bg} {key:List (BitVec 8)} {t:Int}(hW:W∈lM q key t)(h:mf q mark c.panes)(he:(kW q mark v c W).e=0):mf q mark (kW q mark v c W).panes:=by
 obtain⟨hq,iY,hlo,hhi,_,hkey⟩:=qx hW;unfold kW at he ⊢
 split at he
 ·rename_i h1;rw[if_pos h1];exact h
 rename_i h1;rw[if_neg h1]
 split at he
 ·rename_i h2;exact absurd he h2
 rename_i h2;rw[if_neg h2]
 split at he
 ·cases he
 rename_i h3;rw[if_neg h3];have he2:=Decidable.not_not.1 h2;have hgv:∀o∈dX q c.panes W,kY q o mark=true:=λo ho=>(h o (List.mem_filter.1 ho).1).2;have hrd:∀o∈dX q c.panes W,0<=o.r/\o.r<=1073741824:=λo ho=>by
  have:=hgv o ho;unfold kY at this;simp only[bf8,bf0]at this;exact this.2.1
 obtain⟨k1,k2,k3⟩:=tK he2 hrd;have k4:0<(dJ q (dN q c.panes W) (dX q c.panes W) v).1.a.n:=by
  unfold dJ at he2 ⊢
  split at he2
  ·rename_i g1;rw[if_pos g1]
   split at he2
   ·rename_i g2;rw[if_pos g2];exact QN g2
   rename_i g2;exact absurd he2 g2
  rename_i g1;exact absurd he2 g1
 have k5:ji (dN q c.panes W) mark=false->(dJ q (dN q c.panes W) (dX q c.panes W) v).1.r=0:=λhb=>by
  unfold dJ at he2 ⊢
  split at he2
  ·rename_i g1;rw[if_pos g1]
   split at he2
   ·rename_i g2;rw[if_pos g2];exact zV hb _ _ rfl hgv
   rename_i g2;exact absurd he2 g2
  rename_i g1;exact absurd he2 g1
 have hbr:(dN q c.panes W).bB=true:=by
  rw[dN]
  split
  ·exact(jh (l:=fI c.panes) iY).1
  exact iY
 have hmd:yM q (dN q c.panes W)=true:=by
  unfold yM;by_cases hk:q.kind=3
  ·rw[if_pos hk,dN,if_pos hk];obtain⟨_,_,b1,b2,_⟩:=jh (l:=fI c.panes) iY;have hsz:W.hi-W.lo=q.size:=by
    unfold lM at hW
    split at hW
    ·rw[bgd]at hW;rw[hW];show t+q.size-t=q.size;omega
    simp at hW
   exact bfr (by omega)
  rw[if_neg hk,dN,if_neg hk];exact bfr (Ph hk hW)
 obtain⟨gp,ZQ⟩:=Nm ((dJ q (dN q c.panes W) (dX q c.panes W) v).1);rw[<-ZQ]at k1 k2 k3 k4 k5 h3 ⊢;obtain⟨b,hbe⟩:=Nm (dN q c.panes W);rw[<-hbe]at k1 k5 h1 hbr hmd;intro p hp;rcases N7 hp with rfl | hp
 ·have hfw:(fC gp mark).w=b/\(fC gp mark).a=gp.a:=by
   unfold fC
   split
   ·exact⟨k1,rfl⟩
   exact⟨k1,rfl⟩
  refine⟨?_,?_⟩
  ·unfold jY;rw[hfw.1,hfw.2,hbr,hmd,k3,bfr k4];rfl
  unfold kY;rw[hfw.1];simp only[bf8,bf0,beq_iff_eq,Bool.not_eq_true'];have h1':gy q b mark=false:=by
   cases hx:gy q b mark with
   | false=>rfl
   | true=>exact absurd hx h1
  refine⟨h1',⟨?_,Int.not_lt.1 h3⟩,?_⟩
  ·unfold fC
   split
   ·show 0<=gp.r+1;omega
   exact k2.1
  unfold fC;rw[k1]
  cases hx:ji b mark with
  | true=>
   rw[if_pos rfl];exact(bfr (show 0<gp.r+1 by omega)).symm
  | false=>
   rw[if_neg (by decide),k5 hx]
   rfl
 ·exact h p (List.mem_filter.1 hp).1
theorem Dx {q:bz} {mark v:Int} {key:List (BitVec 8)} {t:Int}:∀(ws:List bg) (c:kg),(∀W∈ws,W∈lM q key t)->mf q mark c.panes->(dC q mark v ws c).e=0->mf q mark (dC q mark v ws c).panes
 | [],_,_,h,_=>h
 | W::ws,c,hW,h,he=>by
  unfold dC at he ⊢
  split at he
  ·rename_i h1;rw[if_pos h1];exact Dx ws _ (λx hx=>hW x (by simp[hx])) (Ca (hW W (by simp)) h h1) he
  rename_i h1;exact absurd he h1
theorem Lx {q:bz} {s:di} {x:bN}(h:mf q s.mark s.panes)(he:(gQ q s x).2.2=0):mf q (gQ q s x).1.mark (gQ q s x).1.panes/\(gQ q s x).1.mark=s.mark:=by
 unfold gQ at he ⊢
 split at he
 ·rename_i h1;exact absurd he h1
 rename_i h1;rw[if_neg h1]
 split at he
 ·rename_i h2;rw[if_pos h2];exact⟨h,rfl⟩
 rename_i h2;rw[if_neg h2]
 split at he
 ·cases he
 rename_i h3;rw[if_neg h3];exact⟨Dx (lM q x.key x.time) ⟨s.panes,[],true,0⟩ (λW hW=>hW) h (Decidable.not_not.1 h1),rfl⟩
theorem J9 {w:bg} {m t:Int}(h:ji w m=true)(ht:m<=t):ji w t=true:=by
 unfold ji at h ⊢;simp only[bf8,bf0]at h ⊢;exact⟨h.1,by omega⟩
theorem JP {q:bz} {m t:Int} {l:List bH}(h:mf q m l)(ht:m<=t):mf q t (kT q t l):=by
 intro p hp;obtain⟨hp1,hp2⟩:=List.mem_filter.1 hp;obtain⟨y,hy,rfl⟩:=List.mem_map.1 hp1;obtain⟨k1,k2⟩:=h y hy;refine⟨?_,?_⟩
 ·unfold jY at k1 ⊢;rw[(nD t y).1,(nD t y).2];exact k1
 unfold kY at k2 ⊢;rw[(nD t y).1]at hp2 ⊢;simp only[bf8,bf0,beq_iff_eq]at k2 ⊢;refine⟨hp2,?_⟩;unfold jc;by_cases hf:fV t y=true
 ·rw[if_pos hf];unfold fV at hf;simp only[bf8,bf0]at hf;rw[hf.2];exact⟨by show(0:Int)<=1/\(1:Int)<=1073741824;decide,rfl⟩
 rw[if_neg hf];refine⟨k2.2.1,?_⟩;by_cases hr:0<y.r
 ·rw[bfr hr]at k2 ⊢;exact J9 k2.2.2 ht
 rw[bfq hr];have h0:y.r=0:=by omega
 unfold fV at hf;rw[h0]at hf;simpa using hf
theorem kI {q:bz} {s:di}:fQ q s=true↔q.bB=true/\(-1<=s.mark/\s.mark<=1099511627776)/\s.panes.length<=256/\mf q s.mark s.panes/\fH q s.panes=true:=by
 unfold fQ mf;simp only[bf8,bf0,bgt]
theorem Ht {q:bz} {s:di} {x:bN}(hk:x.key.length<=1000000)(h:fQ q s=true)(he:(dR q s x).2.2=0):fQ q (dR q s x).1=true:=by
 have hok:=BP (xW h) hk he;obtain⟨h1,h2,h3,h4,h5⟩:=kI.1 h;refine kI.2 ⟨h1,?_⟩
 suffices hs:(-1<=(dR q s x).1.mark/\(dR q s x).1.mark<=1099511627776)/\mf q (dR q s x).1.mark (dR q s x).1.panes from⟨hs.1,hok.2.2,hs.2,hok.1⟩
 clear hok;unfold dR at he ⊢
 split at he
 ·rename_i hx;rw[if_pos hx]
  split at he
  ·rename_i hk1;rw[if_pos hk1];obtain⟨k1,k2⟩:=Lx h4 he;exact⟨by rw[k2];exact h2,k1⟩
  rename_i hk1;rw[if_neg hk1];show(-1<=(gY q s x.time).1.mark/\(gY q s x.time).1.mark<=1099511627776)/\mf q (gY q s x.time).1.mark (gY q s x.time).1.panes;unfold gY
  split
  ·exact⟨h2,h4⟩
  rename_i ht;have hb:0<=x.time/\x.time<=1099511627776:=by
   unfold bN.bB at hx;simp only[bf8,bf0]at hx;exact hx.1
  exact⟨⟨by show -1<=x.time;omega,hb.2⟩,JP h4 (Int.le_of_lt (Int.not_le.1 ht))⟩
 cases he
theorem Dq(q:bz)(s:di)(o:List dB)(n:Int)(x:bN)(l:List bN):vP q s o n (x::l)=if (dR q s x).2.2=0 then vP q (dR q s x).1 (o++(dR q s x).2.1) (n+1) l else ⟨s,o,n,(dR q s x).2.2⟩:=rfl
theorem Bl {q:bz}(h:q.bB=true):fQ q xU=true:=by
 refine kI.2 ⟨h,by decide,by decide,λp hp=>by simp[xU]at hp,?_⟩
 unfold fH xU fI
 split
 ·exact bfr dD.nil
 exact bfr List.Pairwise.nil
theorem BZ {q:bz} {a:dS}(h:a.top.length<=1000000):(dV q a).length<=1000000:=by
 unfold dV
 repeat' split
 all_goals first | exact h | simp
def jr(o:List dB):Prop:=∀x∈o,x.v.length<=1000000
theorem jr.append {a b:List dB}(ha:jr a)(hb:jr b):jr (a++b):=λx hx=>by
 rcases List.mem_append.1 hx with h | h
 ·exact ha x h
 exact hb x h
theorem Hy {q:bz} {mark v:Int} {c:kg} {W:bg} {n:Nat}(hc:dL q c.panes n)(h:jr c.outs):jr (kW q mark v c W).outs:=by
 unfold kW
 split
 ·exact h
 split
 ·exact λx hx=>by simp at hx
 rename_i h2
 split
 ·exact λx hx=>by simp at hx
 refine h.append λx hx=>?_
 split at hx
 ·obtain⟨_,_,k3⟩:=tK (Decidable.not_not.1 h2) (λo ho=>((hc.2.1 o (List.mem_filter.1 ho).1).1));rw[List.mem_singleton.1 hx];refine BZ ?_;have hr:=fM k3;unfold fC
  split
  ·show(dJ q _ _ v).1.a.top.length<=1000000;omega
  omega
 simp at hx
theorem Dz {q:bz} {mark v:Int}:∀(ws:List bg) (c:kg) (n:Nat),dL q c.panes n->(∀W∈ws,W.bB=true/\W.key.length<=1000000)->jr c.outs->jr (dC q mark v ws c).outs
 | [],_,_,_,_,h=>h
 | W::ws,c,n,hc,hW,h=>by
  unfold dC
  split
  ·rename_i he;exact Dz ws _ (n+1) (zy hc (hW W (by simp)) he) (λx hx=>hW x (by simp[hx])) (Hy hc h)
  exact Hy hc h
theorem MO {l:List dB} {x:dB}(h:x∈pU l):x∈l:=by
 have hi:∀(l:List dB) (y:dB),x∈si l y->x=y∨x∈l:=by
  intro l y
  induction l with
  | nil=>
   intro h;exact .inl (List.mem_singleton.1 h)
  | cons z l ih=>
   intro h;unfold si at h
   split at h
   ·rcases List.mem_cons.1 h with h | h
    ·exact .inl h
    exact .inr h
   rcases List.mem_cons.1 h with h | h
   ·exact .inr (by simp[h])
   rcases ih h with h | h
   ·exact .inl h
   exact .inr (by simp[h])
 have hf:∀(l acc:List dB),x∈l.foldl si acc->x∈acc∨x∈l:=by
  intro l
  induction l with
  | nil=>exact λ_ h=> .inl h
  | cons y l ih=>
   intro acc h;rcases ih _ h with h | h
   ·rcases hi _ _ h with h | h
    ·exact .inr (by simp[h])
    exact .inl h
   exact .inr (by simp[h])
 rcases hf l [] h with h | h
 ·simp at h
 exact h
theorem MR {q:bz} {s:di} {x:bN} {n:Nat}(hc:dL q s.panes n)(hk:x.key.length<=1000000):jr (dR q s x).2.1:=by
 unfold dR
 split
 ·split
  ·unfold gQ;have hf:=Dz (q:=q) (mark:=s.mark) (v:=x.value) (lM q x.key x.time) ⟨s.panes,[],true,0⟩ n hc (λW hW=>by obtain⟨_,k1,_,_,_,k2⟩:=qx hW;exact⟨k1,by rw[k2];exact hk⟩) (λx hx=>by simp at hx)
   split
   ·exact λx hx=>by simp at hx
   split
   ·exact λy hy=>by rw[List.mem_singleton.1 hy];simp[sj]
   split
   ·exact λx hx=>by simp at hx
   exact hf
  unfold gY
  split
  ·exact λx hx=>by simp at hx
  intro o ho;obtain⟨p,hp,rfl⟩:=List.mem_map.1 (MO ho);refine BZ ?_;rw[(nD _ p).2];exact(hc.2.1 p (List.mem_filter.1 hp).1).2.2
 exact λx hx=>by simp at hx
theorem G9 {q:bz}:∀(l:List bN) (s:di) (o:List dB) (n:Int),dL q s.panes 256->(∀x∈l,x.key.length<=1000000)->jr o->jr (vP q s o n l).outs/\(vP q s o n l).outs.length<=o.length+256*l.length/\dL q (vP q s o n l).s.panes 256
 | [],_,_,_,hc,_,h=>⟨h,by simp[vP],hc⟩
 | x::l,s,o,n,hc,hk,h=>by
  rw[Dq]
  split
  ·rename_i he;have hx:=hk x (by simp)
   obtain⟨k1,k2,k3⟩:=G9 l _ (o++(dR q s x).2.1) (n+1) (BP hc hx he) (λy hy=>hk y (by simp[hy])) (h.append (MR hc hx))
   refine⟨k1,?_,k3⟩;have h1:=vS (q:=q) (s:=s) (x:=x) (n:=256) hc.2.2 (by decide)
   rw[bft]at k2;rw[bgy];omega
  exact⟨h,Nat.le_add_right _ _,hc⟩
end Go.Proofs.YtjeeghafachebaaGreat
