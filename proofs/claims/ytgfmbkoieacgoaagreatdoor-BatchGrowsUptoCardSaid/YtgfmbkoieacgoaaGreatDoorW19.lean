/- 19. -/
import Derived.Test.YtgfmbkoieacgoaaGreatDoorW15
import Derived.Test.YtgfmbkoieacgoaaGreatDoorW17
namespace Go.Proofs.YtgfmbkoieacgoaaGreatDoor
open Go Go.RowKit
theorem kY {α:Type} {R:α->α->Prop}(d:∀a,¬R a a)(n:∀a b,R a b->R b a->False):∀{l m:List α},l.Pairwise R->m.Pairwise R->(∀x,x∈l↔x∈m)->l=m
 | [],[],_,_,_=>rfl
 | [],y::m,_,_,h=>absurd ((h y).2 (by simp)) (by simp)
 | x::l,[],_,_,h=>absurd ((h x).1 (by simp)) (by simp)
 | x::l,y::m,hl,hm,h=>by
  rw[List.pairwise_cons]at hl hm;have e:x=y:=by
   rcases List.mem_cons.1 ((h x).1 (by simp))with e | o
   ·exact e
   rcases List.mem_cons.1 ((h y).2 (by simp))with e | p
   ·exact e.symm
   exact(n _ _ (hm.1 x o) (hl.1 y p)).elim
  subst e
  congr 1
  refine kY d n hl.2 hm.2 λz=>?_;have j:=h z;simp only[bf2]at j;constructor
  ·intro c;rcases j.1 (.inr c)with rfl | k
   ·exact(d _ (hl.1 z c)).elim
   exact k
  intro c;rcases j.2 (.inr c)with rfl | k
  ·exact(d _ (hm.1 z c)).elim
  exact k
def jU(x y:bY):Prop:=bK x.w y.w
theorem nP {a:List bY}:(gJ a).Pairwise bK↔a.Pairwise jU:=by
 unfold gJ;rw[List.pairwise_map];exact Iff.rfl
theorem three {c:List bY} {g:bY->Bool} {b:bf}(k:c.Pairwise jU)(E:∀x∈c,g x=false->bK x.w b->∀y∈c,g y=true->bK x.w y.w)
  (o:∀x∈c,g x=false->¬bK x.w b->bK b x.w/\∀y∈c,g y=true->bK y.w x.w):
  ∃A B,c=A++c.filter g++B/\(c.filter λx=> !g x)=A++B/\(∀a∈A,bK a.w b)/\∀x∈B,bK b x.w:=by
 have q:∀a:bY,¬jU a a:=λa h=>bK.irrefl h;have r:∀a b:bY,jU a b->jU b a->False:=λa b h d=>bK.asymm h d;obtain⟨A,s⟩:=Nm (c.filter (λx=> !g x && decide (bK x.w b)));obtain⟨B,u⟩:=Nm (c.filter (λx=> !g x && !decide (bK x.w b)));have l:∀x,x∈A↔x∈c/\g x=false/\bK x.w b:=λx=>by rw[s,bgv];simp
 have m:∀x,x∈B↔x∈c/\g x=false/\¬bK x.w b:=λx=>by rw[u,bgv];simp
 have p:∀x,x∈c.filter g↔x∈c/\g x=true:=λx=>bgv;have z:A.Pairwise jU:=by rw[s];exact k.sublist List.filter_sublist
 have D:B.Pairwise jU:=by rw[u];exact k.sublist List.filter_sublist
 have F:(c.filter g).Pairwise jU:=k.sublist List.filter_sublist;have n:∀a∈A,∀x∈B,jU a x:=λa e x j=>by
  have h:=(l a).1 e;have d:=(m x).1 j;exact h.2.2.trans (o x d.1 d.2.1 d.2.2).1
 refine⟨A,B,?_,?_,λa e=>((l a).1 e).2.2,λx j=>by have h:=(m x).1 j;exact(o x h.1 h.2.1 h.2.2).1⟩
 ·refine kY q r k ?_ λx=>?_
  ·rw[List.pairwise_append,List.pairwise_append];refine⟨⟨z,F,λa e y I=>?_⟩,D,λa e x j=>?_⟩
   ·have h:=(l a).1 e;have d:=(p y).1 I;exact E a h.1 h.2.1 h.2.2 y d.1 d.2
   rcases List.mem_append.1 e with e | e
   ·exact n a e x j
   have h:=(p a).1 e;have d:=(m x).1 j;exact(o x d.1 d.2.1 d.2.2).2 a h.1 h.2
  simp only[bgg,l,m,p];cases g x <;> by_cases h:bK x.w b <;> simp[h]
 refine kY q r (k.sublist List.filter_sublist) ?_ λx=>?_
 ·rw[List.pairwise_append];exact⟨z,D,n⟩
 simp only[bgg,l,m,bgv];cases g x <;> by_cases h:bK x.w b <;> simp[h]
theorem kE {q:bu} {a:List bY}(h:fG q a=true):a.Pairwise jU:=by
 unfold fG at h
 split at h
 ·exact nP.1 ((bgh h).2.imp λh=>h.1)
 exact nP.1 (bgh h)
theorem Bo {q:bu} {b:List bY} {W:bf}(I:fG q b=true)(M:W.rightB=true):
  ∃A B,b=A++fO q b W++B/\pg q b W=A++B/\(∀a∈A,bK a.w (dV q b W))/\∀x∈B,bK (dV q b W) x.w:=by
 have N:=kE I;unfold fO pg;by_cases u:q.kind=3
 ·have k:dM (gJ b):=by
   unfold fG at I;rw[if_pos u]at I;exact bgh I
  have K:dV q b W=became (gJ b) W:=by rw[dV,if_pos u]
  have s:∀x,nD q W x=dP x.w W:=λx=>by rw[nD,if_pos u]
  rw[K];obtain⟨O,U,b2,b3,Y,_⟩:=gZ (l:=gJ b) M;have rb:=bU O;have z:∀y∈b,nD q W y=true->y.w.key=(became (gJ b) W).key/\(became (gJ b) W).lo<=y.w.lo/\y.w.hi<=(became (gJ b) W).hi/\y.w.lo<y.w.hi:=λy p d=>by
   rw[s]at d;have J:y.w∈gJ b:=List.mem_map.2 ⟨y,p,rfl⟩;have Q:=Y y.w J d;have R:=(dU _ _).1 d;have ry:=bU R.1;exact⟨R.2.2.1.trans U.symm,Q.1,Q.2,by omega⟩
  have r:∀x∈b,nD q W x=false->x.w.key=(became (gJ b) W).key->¬(x.w.lo<=(became (gJ b) W).hi/\(became (gJ b) W).lo<=x.w.hi):=λx j c D h=>by
   have J:x.w∈gJ b:=List.mem_map.2 ⟨x,j,rfl⟩;rw[s]at c;have S:=ww k M (mW.2 ⟨J,c⟩);rw[Bool.eq_false_iff]at S;exact S ((dU _ _).2 ⟨k.1 _ J,O,D,h.1,h.2⟩)
  have E:∀x∈b,x.w.lo<x.w.hi:=λx j=>by
   have:=bU (k.1 x.w (List.mem_map.2 ⟨x,j,rfl⟩));omega
  refine three N (λx j c o y p d=>?_) (λx j c o=>?_)
  ·obtain⟨F,Z,y3,y4⟩:=z y p d;rcases o with o | ⟨m,o⟩
   ·exact .inl (by rw[F];exact o)
   have h:=r x j c m;have:=E x j;exact .inr ⟨m.trans F.symm,.inl (by omega)⟩
  have L:x.w≠became (gJ b) W:=λe=>by
   refine r x j c (by rw[e]) ?_
   rw[e];omega
  have n:bK (became (gJ b) W) x.w:=(lZ L).resolve_left o;refine⟨n,λy p d=>?_⟩;obtain⟨F,Z,y3,y4⟩:=z y p d;rcases n with n | ⟨m,n⟩
  ·exact .inl (by rw[F];exact n)
  have h:=r x j c m.symm;have:=E x j;exact .inr ⟨F.trans m,.inl (by omega)⟩
 ·have K:dV q b W=W:=by rw[dV,if_neg u]
  have s:∀x,nD q W x=decide (x.w=W):=λx=>by rw[nD,if_neg u]
  rw[K];refine three N (λx j c o y p d=>?_) (λx j c o=>?_)
  ·rw[s,bf0]at d;rw[d];exact o
  rw[s,decide_eq_false_iff_not]at c;have h:=(lZ c).resolve_left o;refine⟨h,λy p d=>?_⟩;rw[s,bf0]at d;rw[d];exact h
theorem F7(l:List bf)(w:bf):(vg l w).length=(l.filter λo=>dP o w).length:=by
 have e:l=(List.range l.length).map (λi=>l.getD i bF):=by
  apply List.ext_getElem?;intro i;rw[bgf];by_cases h:i<l.length
  ·rw[List.getElem?_range h,Option.map_some,List.getD_eq_getElem?_getD,bfs h];rfl
  rw[bgk (by omega),bgk (by simpa using h)]
  rfl
 conv=>rhs;rw[e,List.filter_map,bfz]
 rfl
theorem Qv {q:bu}(b:q.kind=3)(a:List bY)(W:bf):((gJ a).filter λo=>dP o W).length=(fO q a W).length:=by
 unfold gJ fO;rw[List.filter_map,bfz]
 congr 1
 apply List.filter_congr;intro x _;rw[nD,if_pos b];rfl
theorem QZ {q:bu}(b:q.kind=3)(a:List bY)(W:bf):kF (gJ a) W=gJ (pg q a W):=by
 unfold gJ pg kF;rw[List.filter_map]
 congr 1
 apply List.filter_congr;intro x _;rw[nD,if_pos b];rfl
theorem FO(A B:List bf)(i:Nat):(i<A.length->sO (A++B) i∈A)/\(A.length<=i->i<A.length+B.length->sO (A++B) i∈B):=by
 constructor
 ·intro h;rw[fJ (x:=A[i]) (by rw[List.getElem?_append_left h,bfs h])]
  exact List.getElem_mem h
 intro h a;rw[fJ (x:=B[i-A.length]'(by omega)) (by rw[List.getElem?_append_right h,bfs])]
 exact List.getElem_mem _
theorem zg {A B:List bf} {b:bf}(c:∀a∈A,bK a b)(d:∀x∈B,¬bK x b):jH (A++B) b A.length:=by
 refine⟨by simp,λi e=>c _ ((FO A B i).1 e),λi h j=>d _ ((FO A B i).2 h (by simpa using j))⟩
theorem JU {l:List bf} {t:bf} {p a:Nat}(h:jH l t p)(b:jH l t a):p=a:=by
 obtain⟨k,c,d⟩:=h;obtain⟨m,e,j⟩:=b;rcases Nat.lt_trichotomy p a with h | h | h
 ·exact absurd (e p h) (d p (bfx _) (by omega))
 ·exact h
 exact absurd (c a h) (j a (bfx _) (by omega))
theorem xg {q:bu} {b A B:List bY} {W:bf}(j:q.kind=3)(k:fG q b=true)(n:W.rightB=true)(s:pg q b W=A++B)(l:∀a∈A,bK a.w (dV q b W))(o:∀x∈B,bK (dV q b W) x.w):
  pq (gJ b) W=(gJ A++dV q b W::gJ B,dV q b W,vg (gJ b) W)/\(vg (gJ b) W).length=(fO q b W).length/\dV q b W ∉ gJ A:=by
 have c:dM (gJ b):=by
  unfold fG at k;rw[if_pos j]at k;exact bgh k
 have u:dV q b W=became (gJ b) W:=by rw[dV,if_pos j]
 have p:kF (gJ b) W=gJ A++gJ B:=by rw[QZ j,s,gJ,bgl];rfl
 have mem:∀{L:List bY} {x:bf},x∈gJ L->∃y∈L,y.w=x:=λh=>List.mem_map.1 h;rw[u]at l o ⊢;refine⟨?_,by rw[F7,Qv j],λh=>?_⟩
 ·have m:jH (kF (gJ b) W) (became (gJ b) W) (gJ A).length:=by
   rw[p];refine zg (λa z=>?_) (λx D E=>?_)
   ·obtain⟨y,d,rfl⟩:=mem z;exact l y d
   obtain⟨y,d,rfl⟩:=mem D;exact(o y d).asymm E
  have r:=xO c n m;rw[p,List.take_left' rfl,List.drop_left' rfl]at r;rw[tX c n,<-r];simp
 ·obtain⟨y,d,e⟩:=mem h;have:=l y d;rw[e]at this;exact this.irrefl
theorem LV {q:bu} {c A B:List bY} {W:bf} {p:Nat} {b:Bool}(I:q.kind≠3)(O:fG q c=true)(J:c=A++fO q c W++B)(K:∀a∈A,bK a.w (dV q c W))(u:∀x∈B,bK (dV q c W) x.w)
  (Q:jH (gJ c) W p) (M:b=true↔p<(gJ c).length/\sO (gJ c) p=W):dV q c W=W/\p=A.length/\(fO q c W).length=if b=true then 1 else 0:=by
 have N:dV q c W=W:=by rw[dV,if_neg I]
 rw[N]at K u;have k:∀x∈fO q c W,x.w=W:=λx l=>by
  have:=(List.mem_filter.1 l).2;rw[nD,if_neg I]at this;exact bgh this
 have R:=kE O;have n:(fO q c W).Pairwise jU:=R.sublist List.filter_sublist;have mem:∀{L:List bY} {x:bf},x∈gJ L->∃y∈L,y.w=x:=λh=>List.mem_map.1 h;obtain⟨G,z⟩:=Nm (fO q c W);rw[<-z]at J k n ⊢;have d:gJ c=gJ A++(gJ G++gJ B):=by
  rw[J];simp[gJ]
 have D:jH (gJ c) W (gJ A).length:=by
  rw[d];refine zg (λa S=>?_) (λx l E=>?_)
  ·obtain⟨y,m,rfl⟩:=mem S;exact K y m
  rcases List.mem_append.1 l with l | l
  ·obtain⟨y,m,rfl⟩:=mem l;rw[k y m]at E;exact E.irrefl
  obtain⟨y,m,rfl⟩:=mem l;exact(u y m).asymm E
 have j:p=(gJ A).length:=JU Q D;have F:(gJ A).length=A.length:=by simp[gJ]
 refine⟨N,by rw[j,F],?_⟩
 cases hb':b with
 | true=>
  obtain⟨o,s⟩:=M.1 hb';rw[if_pos rfl]
  match hm:G,k,n with
  | [],_,_=>
   rw[j,d,show gJ ([]:List bY)=[]from rfl,List.nil_append]at s;rw[j,d,show gJ ([]:List bY)=[]from rfl,List.nil_append,bft]at o;have:=(FO (gJ A) (gJ B) (gJ A).length).2 (bfx _) o;rw[s]at this;obtain⟨y,m,e⟩:=mem this;have:=u y m;rw[e]at this;exact this.irrefl.elim
  | [x],_,_=>rfl
  | x::y::r,k,n=>
   rw[List.pairwise_cons]at n;have:=n.1 y (by simp)
   unfold jU at this;rw[k x (by simp),k y (by simp)]at this
   exact this.irrefl.elim
 | false=>
  rw[if_neg (by simp)]
  match hm:G,k with
  | [],_=>rfl
  | x::r,k=>
   exfalso
   have l:=k x (by simp)
   have:b=true:=M.2 ⟨by rw[j,d];simp[gJ],by
    rw[j,d];refine fJ ?_;rw[List.getElem?_append_right (bfx _),Nat.sub_self];simp[gJ,l]⟩
   rw[hb']at this;cases this
open Go Go.RowKit
theorem Vy {A B:List bY} {p:bY}(b:∀a∈A,bK a.w p.w)(c:∀x∈B,bK p.w x.w):CW (A++B) p=A++p::B:=by
 induction A with
 | nil=>
  cases B with
  | nil=>rfl
  | cons x B=>
   show(if bK p.w x.w then p::x::B else x::CW B p)=_
   rw[if_pos (c x (by simp))]
   rfl
 | cons a A ih=>
  show(if bK p.w a.w then p::a::(A++B)else a::CW (A++B) p)=_
  rw[if_neg (λh=>bK.asymm (b a (by simp)) h),ih (λx d=>b x (by simp[d]))]
  rfl
theorem MR {q:bu} {c A B:List bY} {W:bf} {p:bY}(d:fG q c=true)(l:W.rightB=true)(n:pg q c W=A++B)
  (o:∀a∈A,bK a.w (dV q c W)) (r:∀x∈B,bK (dV q c W) x.w) (m:p.w=dV q c W):fG q (A++p::B)=true:=by
 by_cases j:q.kind=3
 ·obtain⟨s,_,_⟩:=xg j d l n o r;have b:dM (gJ c):=by
   unfold fG at d;rw[if_pos j]at d;exact bgh d
  rw[tX b l]at s;have e:gJ (A++p::B)=qh (gJ c) W:=by
   rw[(Prod.mk.inj s).1,gJ,bgl,bgc,m];rfl
  unfold fG;rw[if_pos j,e];exact bfr (wJ b l).1
 have k:(A++B).Pairwise jU:=by
  rw[<-n,pg];exact(kE d).sublist List.filter_sublist
 rw[List.pairwise_append]at k;unfold fG;rw[if_neg j];refine bfr (nP.2 ?_);rw[List.pairwise_append,List.pairwise_cons];refine⟨k.1,⟨λx h=>?_,k.2.1⟩,λa u x h=>?_⟩
 ·show bK p.w x.w;rw[m];exact r x h
 rcases List.mem_cons.1 h with rfl | h
 ·show bK a.w x.w;rw[m];exact o a u
 exact k.2.2 a u x h
theorem QH {q:bu} {x y:fP}(h:(fD q x y).2=0):(fD q x y).1.rightB q=true:=by
 unfold fD at h ⊢
 split at h
 ·rename_i b;rw[if_pos b]
  split at h
  ·rename_i a;rw[if_pos a];exact a.2
  cases h
 cases h
theorem Vm {q:bu} {x:fP} {v:Int}(h:(lY q x v).2=0):(lY q x v).1.rightB q=true:=by
 unfold lY at h ⊢
 split at h
 ·rename_i a;rw[if_pos a];exact QH h
 cases h
theorem NY {q:bu} {b:bf}:∀(l:List bY) (p:fP × Int),(0<=p.2/\p.2<=1073741824)->(∀o∈l,0<=o.r/\o.r<=1073741824)->0<=(ji q b l p).2.1/\(ji q b l p).2.1<=1073741824
 | [],p,h,_=>h
 | o::l,p,h,hl=>by
  unfold ji
  split
  ·refine NY l _ ?_ λx a=>hl x (by simp[a])
   simp only
   split
   ·exact hl o (by simp)
   exact h
  simp
theorem sU {q:bu} {b:bf} {l:List bY} {v:Int}(h:(dK q b l v).2=0)(e:∀o∈l,0<=o.r/\o.r<=1073741824):
  (dK q b l v).1.w=b/\(0<=(dK q b l v).1.r/\(dK q b l v).1.r<=1073741824)/\(dK q b l v).1.a.rightB q=true:=by
 unfold dK at h ⊢
 split at h
 ·rename_i d;rw[if_pos d]
  split at h
  ·rename_i c;rw[if_pos c];exact⟨rfl,NY l _ (by simp) e,Vm c⟩
  rename_i c;exact absurd h c
 rename_i d;exact absurd h d
def dJ(q:bu)(l:List bY)(n:Nat):Prop:=fG q l=true/\(∀x∈l,(0<=x.r/\x.r<=1073741824)/\x.w.key.length<=1000000/\x.a.top.length<=1000000)/\l.length<=n
theorem Ha {q:bu} {l:List bY} {W:bf}(a:W.rightB=true):(dV q l W).key=W.key:=by
 rw[dV]
 split
 ·exact(gZ (l:=gJ l) a).2.1
 rfl
theorem dJ.ins {q:bu} {b A B:List bY} {W:bf} {n:Nat} {v mark:Int}(h:dJ q b n)(j:W.rightB=true)(u:W.key.length<=1000000)(e:pg q b W=A++B)
  (k:∀a∈A,bK a.w (dV q b W)) (l:∀x∈B,bK (dV q b W) x.w) (y:(dK q (dV q b W) (fO q b W) v).2=0)
  (z:¬1073741824<(gy (dK q (dV q b W) (fO q b W) v).1 mark).r):
  dJ q (A++gy (dK q (dV q b W) (fO q b W) v).1 mark::B) (n+1)/\CW (pg q b W) (gy (dK q (dV q b W) (fO q b W) v).1 mark)=A++gy (dK q (dV q b W) (fO q b W) v).1 mark::B:=by
 obtain⟨m,D,s⟩:=sU y (λo E=>((h.2.1 o (List.mem_filter.1 E).1).1));have d:(gy (dK q (dV q b W) (fO q b W) v).1 mark).w=dV q b W/\(gy (dK q (dV q b W) (fO q b W) v).1 mark).a.rightB q=true/\0<=(gy (dK q (dV q b W) (fO q b W) v).1 mark).r:=by
  unfold gy
  split
  ·exact⟨m,s,by show 0<=_+1;omega⟩
  exact⟨m,s,D.1⟩
 obtain⟨p,F⟩:=Nm (gy (dK q (dV q b W) (fO q b W) v).1 mark);rw[<-F]at d z ⊢;refine⟨⟨MR h.1 j e k l d.1,λx c=>?_,?_⟩,by rw[e];exact Vy (by rw[d.1];exact k) (by rw[d.1];exact l)⟩
 ·have hold:∀x∈A++B,(0<=x.r/\x.r<=1073741824)/\x.w.key.length<=1000000/\x.a.top.length<=1000000:=λx c=>by
   rw[<-e]at c;exact h.2.1 x (List.mem_filter.1 c).1
  rcases List.mem_append.1 c with c | c
  ·exact hold x (List.mem_append.2 (.inl c))
  rcases List.mem_cons.1 c with rfl | c
  ·have J:=gq d.2.1;exact⟨⟨d.2.2,by omega⟩,by rw[d.1,Ha j];exact u,by omega⟩
  exact hold x (List.mem_append.2 (.inr c))
 ·have I:(A++B).length<=b.length:=by rw[<-e];exact List.length_filter_le _ _
  have:=h.2.2;simp only[bft,bgy]at I ⊢;omega
theorem qQ {q:bu} {mark v:Int} {a:List bf} {c0 c:lh} {i:Nat} {W:bf}(h:dW q mark v a c0=dW q mark v (a.drop i) c)(b:a[i]? =some W):
  dW q mark v a c0=if (mO q mark v c W).e=0 then dW q mark v (a.drop (i+1)) (mO q mark v c W)else mO q mark v c W:=by
 rw[h,List.drop_eq_getElem?_toList_append,b];rfl
theorem RH {q:bu} {mark v:Int} {a:List bf} {c0 c:lh} {i:Nat}(h:dW q mark v a c0=dW q mark v (a.drop i) c)(b:¬i<a.length):dW q mark v a c0=c:=by
 rw[h,List.drop_eq_nil_of_le (by omega)]
 rfl
open Go Go.RowKit
theorem dJ.mono {q:bu} {l:List bY} {n k:Nat}(h:dJ q l n)(a:n<=k):dJ q l k:=⟨h.1,h.2.1,bgn h.2.2 a⟩
theorem DU {q:bu} {s:df}(h:fQ q s=true):dJ q s.panes 256:=by
 unfold fQ at h;simp only[bf8,bf0,bgt]at h;obtain⟨_,_,c,d,e⟩:=h;refine⟨e,λx j=>?_,c⟩;obtain⟨a,b⟩:=d x j;unfold jC at a;unfold openB at b;simp only[bf8,bf0]at a b;have k:=gq a.2.2.2;have l:=bU a.1;refine⟨b.2.1,?_,by omega⟩
 omega
theorem PD {q:bu} {mark v:Int} {c:lh} {W:bf} {n:Nat}(h:dJ q c.panes n)(d:W.rightB=true/\W.key.length<=1000000)(a:(mO q mark v c W).e=0):dJ q (mO q mark v c W).panes (n+1):=by
 unfold mO at a ⊢
 split at a
 ·rename_i j;rw[if_pos j];exact h.mono (by omega)
 rename_i j;rw[if_neg j]
 split at a
 ·rename_i b;exact absurd a b
 rename_i b;rw[if_neg b]
 split at a
 ·cases a
 rename_i k;rw[if_neg k];obtain⟨A,B,_,l,m,o⟩:=Bo h.1 d.1;obtain⟨p,r⟩:=h.ins d.1 d.2 l m o (Decidable.not_not.1 b) k;show dJ q (CW _ _) _;rw[r];exact p
theorem Kt {q:bu} {mark v:Int}:∀(a:List bf) (c:lh) (n:Nat),dJ q c.panes n->(∀W∈a,W.rightB=true/\W.key.length<=1000000)->(dW q mark v a c).e=0->dJ q (dW q mark v a c).panes (n+a.length)
 | [],_,_,h,_,_=>h
 | W::a,c,n,h,hW,he=>by
  unfold dW at he ⊢
  split at he
  ·rename_i b;rw[if_pos b];have d:=Kt a _ (n+1) (PD h (hW W (by simp)) b) (λx j=>hW x (by simp[j])) he
   rw[bgy,show n+(a.length+1)=n+1+a.length by omega]
   exact d
  rename_i b;exact absurd he b
theorem SX {q:bu} {s:df} {x:ItemL}(h:dJ q s.panes 256)(j:x.key.length<=1000000)(a:(jA q s x).2.2=0):dJ q (jA q s x).1.panes 256:=by
 unfold jA at a ⊢
 split at a
 ·rename_i b;exact absurd a b
 rename_i b;rw[if_neg b]
 split at a
 ·rename_i c;rw[if_pos c];exact h
 rename_i c;rw[if_neg c]
 split at a
 ·cases a
 rename_i d;rw[if_neg d];have e:=Kt (rX q x.key x.time) ⟨s.panes,[],true,0⟩ 256 h (λW k=>by obtain⟨_,l,_,_,_,m⟩:=rY k;exact⟨l,by rw[m];exact j⟩) (Decidable.not_not.1 b)
 exact⟨e.1,e.2.1,Nat.le_of_not_lt d⟩
theorem nC(t:Int)(p:bY):(je t p).w=p.w/\(je t p).a=p.a:=by
 unfold je
 split <;> exact⟨rfl,rfl⟩
theorem TF {q:bu} {s:df} {t:Int} {n:Nat}(h:dJ q s.panes n):dJ q (jZ q s t).1.panes n:=by
 unfold jZ
 split
 ·exact h
 show dJ q (lQ q t s.panes) n;have a:(gJ (lQ q t s.panes)).Sublist (gJ s.panes):=by
  have e:gJ (s.panes.map (je t))=gJ s.panes:=by
   unfold gJ;rw[List.map_map];exact List.map_congr_left λx _=>(nC t x).1
  rw[<-e];exact List.filter_sublist.map _
 refine⟨?_,λx c=>?_,?_⟩
 ·have b:=h.1;unfold fG at b ⊢;by_cases d:q.kind=3
  ·rw[if_pos d]at b ⊢;have j:=bgh b;exact bfr ⟨λx c=>j.1 x (a.subset c),j.2.sublist a⟩
  rw[if_neg d]at b ⊢;exact bfr ((bgh b).sublist a)
 ·obtain⟨y,l,rfl⟩:=List.mem_map.1 (List.mem_filter.1 c).1;obtain⟨m,o,r⟩:=h.2.1 y l;rw[(nC t y).1,(nC t y).2];refine⟨?_,o,r⟩;unfold je
  split
  ·show(0:Int)<=1/\(1:Int)<=1073741824;decide
  exact m
 have k:=List.length_filter_le (λp=> !kD q p.w t) (s.panes.map (je t));rw[bfz]at k;exact bgn k h.2.2
theorem xN {q:bu} {s:df} {x:ItemL}(h:dJ q s.panes 256)(c:x.key.length<=1000000)(a:(stepS q s x).2.2=0):dJ q (stepS q s x).1.panes 256:=by
 unfold stepS at a ⊢
 split at a
 ·rename_i d;rw[if_pos d]
  split at a
  ·rename_i b;rw[if_pos b];exact SX h c a
  rename_i b;rw[if_neg b];exact TF h
 cases a
theorem RG {q:bu} {mark v:Int} {c:lh} {W:bf}:(mO q mark v c W).outs.length<=c.outs.length+1:=by
 unfold mO
 split
 ·omega
 split
 ·simp
 split
 ·simp
 rw[bft]
 split <;> simp
theorem Cj {q:bu} {mark v:Int}:∀(a:List bf) (c:lh),(dW q mark v a c).outs.length<=c.outs.length+a.length
 | [],_=>by simp[dW]
 | W::a,c=>by
  have b:=RG (q:=q) (mark:=mark) (v:=v) (c:=c) (W:=W);unfold dW
  split
  ·have d:=Cj (q:=q) (mark:=mark) (v:=v) a (mO q mark v c W);rw[bgy];omega
  rw[bgy];omega
theorem Gx(l:List dE):(lX l).length=l.length:=by
 have b:∀(l:List dE) (x:dE),(rO l x).length=l.length+1:=by
  intro l x
  induction l with
  | nil=>rfl
  | cons y l ih=>
   unfold rO
   split
   ·rfl
   rw[bgy,ih,bgy]
 have h:∀(l a:List dE),(l.foldl rO a).length=a.length+l.length:=by
  intro l
  induction l with
  | nil=>intro a;rfl
  | cons y l ih=>
   intro a;rw[List.foldl_cons,ih,b,bgy];omega
 unfold lX;rw[h];simp
theorem wH {q:bu} {s:df} {x:ItemL} {n:Nat}(h:s.panes.length<=n)(b:16<=n):(stepS q s x).2.1.length<=n:=by
 unfold stepS
 split
 ·split
  ·unfold jA;have a:=Cj (q:=q) (mark:=s.mark) (v:=x.value) (rX q x.key x.time) ⟨s.panes,[],true,0⟩;have c:=Gi q x.key x.time;simp only[List.length_nil]at a
   split
   ·simp
   split
   ·simp;omega
   split
   ·simp
   show(dW _ _ _ _ _).outs.length<=n;omega
  unfold jZ
  split
  ·simp
  show(lX (kQ q x.time s.panes)).length<=n;rw[Gx,kQ,bfz];exact bgn (List.length_filter_le _ _) h
 simp
open Go Go.RowKit
theorem TK {q:bu} {key:List (BitVec 8)} {t:Int} {W:bf}(r:q.kind≠3)(b:W∈rX q key t):W∈rX q W.key W.lo:=by
 obtain⟨l,o,c,_,_,d⟩:=rY b;have e:=bU o;unfold rX at b
 split at b
 ·rename_i a;simp only[lm,bf8,bf0]at a;obtain⟨x,y,z,D,E⟩:=gX l;obtain⟨i,F,rfl⟩:=List.mem_map.1 b;obtain⟨I,J,K⟩:=rU l a.2.1;obtain⟨k,m⟩:=Nm (Gg q t+(i:Int));rw[<-m]at c o d e ⊢;have s:0<=k:=by omega
  have p:(xP q key k).lo=k*dI q:=rfl;have n:(xP q key k).key=key:=rfl;rw[p]at c e;rw[p,n];have h:lm q key (k*dI q)=true:=by
   simp only[lm,bf8,bf0];exact⟨⟨l,a.1.2⟩,by omega⟩
  have j:k*dI q / dI q=k:=Int.mul_ediv_cancel k (by omega)
  have u:Gg q (k*dI q)<=k:=(rV l (t:=k*dI q) k (by omega)).1 (by omega)
  unfold rX;rw[if_pos h,if_neg r,j];refine List.mem_map.2 ⟨(k-Gg q (k*dI q)).toNat,List.mem_range.2 (by omega),?_⟩
  congr 1
  omega
 simp at b
theorem TJ {q:bu} {x y:fP}(h:(fD q x y).2=0):(fD q x y).1.n=x.n+y.n/\x.rightB q=true/\y.rightB q=true:=by
 unfold fD at h ⊢
 split at h
 ·rename_i a;rw[if_pos a]
  split at h
  ·rename_i b;rw[if_pos b];exact⟨rfl,a⟩
  cases h
 cases h
theorem Ws {q:bu} {x:fP} {v:Int}(h:(lY q x v).2=0):0<(lY q x v).1.n:=by
 unfold lY at h ⊢
 split at h
 ·rename_i a;rw[if_pos a];obtain⟨b,c,_⟩:=TJ h;have:=gq c;rw[b];show 0<x.n+1;omega
 cases h
theorem Bg {q:bu} {b:bf} {mark:Int}(c:kG b mark=false):∀(l:List bY) (p:fP × Int),p.2=0->(∀o∈l,openB q o mark=true)->(ji q b l p).2.1=0
 | [],p,h,_=>h
 | o::l,p,h,hl=>by
  unfold ji
  split
  ·refine Bg c l _ ?_ λx e=>hl x (by simp[e])
   simp only
   split
   ·rename_i j;have a:=hl o (by simp)
    unfold openB at a;simp only[bf8,bf0,beq_iff_eq]at a;have d:=a.2.2;rw[j,c]at d;have:=of_decide_eq_false d.symm;omega
   exact h
  rfl
def qV(q:bu)(mark:Int)(l:List bY):Prop:=∀p∈l,jC q p=true/\openB q p mark=true
theorem TB {l:List bY} {p x:bY}(h:x∈CW l p):x=p∨x∈l:=by
 induction l with
 | nil=>exact .inl (List.mem_singleton.1 h)
 | cons y l ih=>
  unfold CW at h
  split at h
  ·rcases List.mem_cons.1 h with h | h
   ·exact .inl h
   exact .inr h
  rcases List.mem_cons.1 h with h | h
  ·exact .inr (by simp[h])
  rcases ih h with h | h
  ·exact .inl h
  exact .inr (by simp[h])
theorem Ve {q:bu} {mark v:Int} {c:lh} {W:bf} {key:List (BitVec 8)} {t:Int}(k:W∈rX q key t)(h:qV q mark c.panes)(u:(mO q mark v c W).e=0):qV q mark (mO q mark v c W).panes:=by
 obtain⟨hq,K,aa,ab,_,U⟩:=rY k;unfold mO at u ⊢
 split at u
 ·rename_i x;rw[if_pos x];exact h
 rename_i x;rw[if_neg x]
 split at u
 ·rename_i J;exact absurd u J
 rename_i J;rw[if_neg J]
 split at u
 ·cases u
 rename_i L;rw[if_neg L];have d:=Decidable.not_not.1 J;have y:∀o∈fO q c.panes W,openB q o mark=true:=λo M=>(h o (List.mem_filter.1 M).1).2;have N:∀o∈fO q c.panes W,0<=o.r/\o.r<=1073741824:=λo M=>by
  have:=y o M;unfold openB at this;simp only[bf8,bf0]at this;exact this.2.1
 obtain⟨z,Y,Z⟩:=sU d N;have k4:0<(dK q (dV q c.panes W) (fO q c.panes W) v).1.a.n:=by
  unfold dK at d ⊢
  split at d
  ·rename_i m;rw[if_pos m]
   split at d
   ·rename_i j;rw[if_pos j];exact Ws j
   rename_i j;exact absurd d j
  rename_i m;exact absurd d m
 have O:kG (dV q c.panes W) mark=false->(dK q (dV q c.panes W) (fO q c.panes W) v).1.r=0:=λhb=>by
  unfold dK at d ⊢
  split at d
  ·rename_i m;rw[if_pos m]
   split at d
   ·rename_i j;rw[if_pos j];exact Bg hb _ _ rfl y
   rename_i j;exact absurd d j
  rename_i m;exact absurd d m
 have D:(dV q c.panes W).rightB=true:=by
  rw[dV]
  split
  ·exact(gZ (l:=gJ c.panes) K).1
  exact K
 have E:BD q (dV q c.panes W)=true:=by
  unfold BD;by_cases F:q.kind=3
  ·rw[if_pos F,dV,if_pos F];obtain⟨_,_,b1,b2,_⟩:=gZ (l:=gJ c.panes) K;have ac:W.hi-W.lo=q.size:=by
    unfold rX at k
    split at k
    ·rw[bgd]at k;rw[k];show t+q.size-t=q.size;omega
    simp at k
   exact bfr (by omega)
  rw[if_neg F,dV,if_neg F];exact bfr (TK F k)
 obtain⟨I,iM⟩:=Nm ((dK q (dV q c.panes W) (fO q c.panes W) v).1);rw[<-iM]at z Y Z k4 O L ⊢;obtain⟨b,Q⟩:=Nm (dV q c.panes W);rw[<-Q]at z O x D E;intro p R;rcases TB R with rfl | R
 ·have s:(gy I mark).w=b/\(gy I mark).a=I.a:=by
   unfold gy
   split
   ·exact⟨z,rfl⟩
   exact⟨z,rfl⟩
  refine⟨?_,?_⟩
  ·unfold jC;rw[s.1,s.2,D,E,Z,bfr k4];rfl
  unfold openB;rw[s.1];simp only[bf8,bf0,beq_iff_eq,Bool.not_eq_true'];have S:kD q b mark=false:=by
   cases hx:kD q b mark with
   | false=>rfl
   | true=>exact absurd hx x
  refine⟨S,⟨?_,Int.not_lt.1 L⟩,?_⟩
  ·unfold gy
   split
   ·show 0<=I.r+1;omega
   exact Y.1
  unfold gy;rw[z]
  cases hx:kG b mark with
  | true=>
   rw[if_pos rfl];exact(bfr (show 0<I.r+1 by omega)).symm
  | false=>
   rw[if_neg (by decide),O hx]
   rfl
 ·exact h p (List.mem_filter.1 R).1
theorem Fa {q:bu} {mark v:Int} {key:List (BitVec 8)} {t:Int}:∀(a:List bf) (c:lh),(∀W∈a,W∈rX q key t)->qV q mark c.panes->(dW q mark v a c).e=0->qV q mark (dW q mark v a c).panes
 | [],_,_,h,_=>h
 | W::a,c,hW,h,he=>by
  unfold dW at he ⊢
  split at he
  ·rename_i b;rw[if_pos b];exact Fa a _ (λx d=>hW x (by simp[d])) (Ve (hW W (by simp)) h b) he
  rename_i b;exact absurd he b
theorem Qb {q:bu} {s:df} {x:ItemL}(h:qV q s.mark s.panes)(a:(jA q s x).2.2=0):qV q (jA q s x).1.mark (jA q s x).1.panes/\(jA q s x).1.mark=s.mark:=by
 unfold jA at a ⊢
 split at a
 ·rename_i b;exact absurd a b
 rename_i b;rw[if_neg b]
 split at a
 ·rename_i c;rw[if_pos c];exact⟨h,rfl⟩
 rename_i c;rw[if_neg c]
 split at a
 ·cases a
 rename_i d;rw[if_neg d];exact⟨Fa (rX q x.key x.time) ⟨s.panes,[],true,0⟩ (λW e=>e) h (Decidable.not_not.1 b),rfl⟩
theorem MZ {w:bf} {m t:Int}(h:kG w m=true)(a:m<=t):kG w t=true:=by
 unfold kG at h ⊢;simp only[bf8,bf0]at h ⊢;exact⟨h.1,by omega⟩
theorem MB {q:bu} {m t:Int} {l:List bY}(h:qV q m l)(k:m<=t):qV q t (lQ q t l):=by
 intro p n;obtain⟨d,b⟩:=List.mem_filter.1 n;obtain⟨y,o,rfl⟩:=List.mem_map.1 d;obtain⟨e,c⟩:=h y o;refine⟨?_,?_⟩
 ·unfold jC at e ⊢;rw[(nC t y).1,(nC t y).2];exact e
 unfold openB at c ⊢;rw[(nC t y).1]at b ⊢;simp only[bf8,bf0,beq_iff_eq]at c ⊢;refine⟨b,?_⟩;unfold je;by_cases a:kN t y=true
 ·rw[if_pos a];unfold kN at a;simp only[bf8,bf0]at a;rw[a.2];exact⟨by show(0:Int)<=1/\(1:Int)<=1073741824;decide,rfl⟩
 rw[if_neg a];refine⟨c.2.1,?_⟩;by_cases j:0<y.r
 ·rw[bfr j]at c ⊢;exact MZ c.2.2 k
 rw[bfq j];have s:y.r=0:=by omega
 unfold kN at a;rw[s]at a;simpa using a
theorem wE {q:bu} {s:df}:fQ q s=true↔q.rightB=true/\(-1<=s.mark/\s.mark<=1099511627776)/\s.panes.length<=256/\qV q s.mark s.panes/\fG q s.panes=true:=by
 unfold fQ qV;simp only[bf8,bf0,bgt]
theorem J7 {q:bu} {s:df} {x:ItemL}(k:x.key.length<=1000000)(h:fQ q s=true)(c:(stepS q s x).2.2=0):fQ q (stepS q s x).1=true:=by
 have a:=xN (DU h) k c;obtain⟨l,j,r,e,u⟩:=wE.1 h;refine wE.2 ⟨l,?_⟩
 suffices hs:(-1<=(stepS q s x).1.mark/\(stepS q s x).1.mark<=1099511627776)/\qV q (stepS q s x).1.mark (stepS q s x).1.panes from⟨hs.1,a.2.2,hs.2,a.1⟩
 clear a;unfold stepS at c ⊢
 split at c
 ·rename_i d;rw[if_pos d]
  split at c
  ·rename_i b;rw[if_pos b];obtain⟨m,n⟩:=Qb e c;exact⟨by rw[n];exact j,m⟩
  rename_i b;rw[if_neg b];show(-1<=(jZ q s x.time).1.mark/\(jZ q s x.time).1.mark<=1099511627776)/\qV q (jZ q s x.time).1.mark (jZ q s x.time).1.panes;unfold jZ
  split
  ·exact⟨j,e⟩
  rename_i o;have p:0<=x.time/\x.time<=1099511627776:=by
   unfold ItemL.rightB at d;simp only[bf8,bf0]at d;exact d.1
  exact⟨⟨by show -1<=x.time;omega,p.2⟩,MB e (Int.le_of_lt (Int.not_le.1 o))⟩
 cases c
theorem tN(q:bu)(s:df)(o:List dE)(n:Int)(x:ItemL)(l:List ItemL):lJ q s o n (x::l)=if (stepS q s x).2.2=0 then lJ q (stepS q s x).1 (o++(stepS q s x).2.1) (n+1) l else ⟨s,o,n,(stepS q s x).2.2⟩:=rfl
theorem yG {q:bu}:∀(l:List ItemL) (s:df) (o:List dE) (n:Int),lJ q s o n l=⟨(lJ q s [] 0 l).s,o++(lJ q s [] 0 l).outs,n+(lJ q s [] 0 l).n,(lJ q s [] 0 l).e⟩
 | [],s,o,n=>by simp[lJ]
 | x::l,s,o,n=>by
  rw[tN,tN];by_cases h:(stepS q s x).2.2=0
  ·rw[if_pos h,if_pos h,yG l _ (o++_) (n+1),yG l _ ([]++_) (0+1)];simp only[List.nil_append,bgz,kK.mk.injEq,true_and,and_true];omega
  rw[if_neg h,if_neg h];simp
theorem Cf {q:bu} {a:fP}(h:a.top.length<=1000000):(lF q a).length<=1000000:=by
 unfold lF
 repeat' split
 all_goals first | exact h | simp
def gU(o:List dE):Prop:=∀x∈o,x.v.length<=1000000
theorem gU.append {a b:List dE}(c:gU a)(d:gU b):gU (a++b):=λx e=>by
 rcases List.mem_append.1 e with h | h
 ·exact c x h
 exact d x h
theorem Kq {q:bu} {mark v:Int} {c:lh} {W:bf} {n:Nat}(d:dJ q c.panes n)(h:gU c.outs):gU (mO q mark v c W).outs:=by
 unfold mO
 split
 ·exact h
 split
 ·exact λx b=>by simp at b
 rename_i e
 split
 ·exact λx b=>by simp at b
 refine h.append λx b=>?_
 split at b
 ·obtain⟨_,_,j⟩:=sU (Decidable.not_not.1 e) (λo k=>((d.2.1 o (List.mem_filter.1 k).1).1));rw[List.mem_singleton.1 b];refine Cf ?_;have l:=gq j;unfold gy
  split
  ·show(dK q _ _ v).1.a.top.length<=1000000;omega
  omega
 simp at b
theorem Fb {q:bu} {mark v:Int}:∀(a:List bf) (c:lh) (n:Nat),dJ q c.panes n->(∀W∈a,W.rightB=true/\W.key.length<=1000000)->gU c.outs->gU (dW q mark v a c).outs
 | [],_,_,_,_,h=>h
 | W::a,c,n,hc,hW,h=>by
  unfold dW
  split
  ·rename_i b;exact Fb a _ (n+1) (PD hc (hW W (by simp)) b) (λx d=>hW x (by simp[d])) (Kq hc h)
  exact Kq hc h
theorem Rq {l:List dE} {x:dE}(h:x∈lX l):x∈l:=by
 have b:∀(l:List dE) (y:dE),x∈rO l y->x=y∨x∈l:=by
  intro l y
  induction l with
  | nil=>
   intro h;exact .inl (List.mem_singleton.1 h)
  | cons z l ih=>
   intro h;unfold rO at h
   split at h
   ·rcases List.mem_cons.1 h with h | h
    ·exact .inl h
    exact .inr h
   rcases List.mem_cons.1 h with h | h
   ·exact .inr (by simp[h])
   rcases ih h with h | h
   ·exact .inl h
   exact .inr (by simp[h])
 have c:∀(l a:List dE),x∈l.foldl rO a->x∈a∨x∈l:=by
  intro l
  induction l with
  | nil=>exact λ_ h=> .inl h
  | cons y l ih=>
   intro a h;rcases ih _ h with h | h
   ·rcases b _ _ h with h | h
    ·exact .inr (by simp[h])
    exact .inl h
   exact .inr (by simp[h])
 rcases c l [] h with h | h
 ·simp at h
 exact h
theorem Rw {q:bu} {s:df} {x:ItemL} {n:Nat}(b:dJ q s.panes n)(c:x.key.length<=1000000):gU (stepS q s x).2.1:=by
 unfold stepS
 split
 ·split
  ·unfold jA;have d:=Fb (q:=q) (mark:=s.mark) (v:=x.value) (rX q x.key x.time) ⟨s.panes,[],true,0⟩ n b (λW e=>by obtain⟨_,h,_,_,_,j⟩:=rY e;exact⟨h,by rw[j];exact c⟩) (λx a=>by simp at a)
   split
   ·exact λx a=>by simp at a
   split
   ·exact λy k=>by rw[List.mem_singleton.1 k];simp[DF]
   split
   ·exact λx a=>by simp at a
   exact d
  unfold jZ
  split
  ·exact λx a=>by simp at a
  intro o l;obtain⟨p,m,rfl⟩:=List.mem_map.1 (Rq l);refine Cf ?_;rw[(nC _ p).2];exact(b.2.1 p (List.mem_filter.1 m).1).2.2
 exact λx a=>by simp at a
theorem JZ {q:bu}:∀(l:List ItemL) (s:df) (o:List dE) (n:Int),dJ q s.panes 256->(∀x∈l,x.key.length<=1000000)->gU o->gU (lJ q s o n l).outs/\(lJ q s o n l).outs.length<=o.length+256*l.length/\dJ q (lJ q s o n l).s.panes 256
 | [],_,_,_,hc,_,h=>⟨h,by simp[lJ],hc⟩
 | x::l,s,o,n,hc,hk,h=>by
  rw[tN]
  split
  ·rename_i b;have a:=hk x (by simp)
   obtain⟨c,d,e⟩:=JZ l _ (o++(stepS q s x).2.1) (n+1) (xN hc a b) (λy j=>hk y (by simp[j])) (h.append (Rw hc a))
   refine⟨c,?_,e⟩;have k:=wH (q:=q) (s:=s) (x:=x) (n:=256) hc.2.2 (by decide)
   rw[bft]at d;rw[bgy];omega
  exact⟨h,Nat.le_add_right _ _,hc⟩
theorem wF {q:bu} {s:df}(h:fQ q s=true)(l:List ItemL):jo q s l=lJ q s [] 0 l:=by
 unfold jo;rw[if_neg (by rw[h];simp)]
theorem TS(q:bu)(s:df):jo q s []=⟨s,[],0,0⟩:=by
 unfold jo;rw[if_neg (by simp)]
 rfl
theorem BR {q:bu} {s:df}(h:fQ q s=false) {l:List ItemL}(a:l≠[]):jo q s l=⟨s,[],0,2⟩:=by
 unfold jo;rw[if_pos ⟨a,h⟩]
end Go.Proofs.YtgfmbkoieacgoaaGreatDoor
