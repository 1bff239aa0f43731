/- 1. -/
import Derived.StillTail
import Derived.ScopeJumps
import Derived.Test.YtgfmbkoieacgoaaGreatDoorW0
namespace Go.Proofs.YtgfmbkoieacgoaaGreatDoor
open Go
section
variable {P : Program}
def dstAt(l:List Oper)(i:Nat):Option Tmp:=(l[i]?).bind (·.dst)
def PreL(l:List Oper)(V:Nat->World->Value->Prop)(a:Act)(w:World):List Edge->Prop
 | []=>True
 | e::r=>(if Region.binds .any e then (match dstAt l e.on with | some d=>V e.on w (a.eval (.tmp d)) | none=>True)else True)/\PreL l V a w r
def OutL(l:List Oper)(a0 a:Act):Prop:=∀s,(l.all λo=>o.dst !=some s)=true->a.eval (.tmp s)=a0.eval (.tmp s)
def Gd(l:List Oper)(V:Nat->World->Value->Prop):List Oper->Prop
 | []=>True
 | o::r=>(match o.guard with | none=>True | some (j,b)=>∀w v,V j w v->v=.bool b)/\Gd l V r
theorem Gd.at {l:List Oper} {V:Nat->World->Value->Prop}:∀(r:List Oper) (i:Nat) (o:Oper),Gd l V r->r[i]? =some o->match o.guard with | none=>True | some (j,b)=>∀w v,V j w v->v=.bool b
 | [],_,_,_,h=>by simp at h
 | o::r,0,o',h,h'=>by simp at h';subst h';exact h.1
 | o::r,i+1,o',h,h'=>Gd.at r i o' h.2 (by simpa using h')
def localB(l:List Oper)(n:Nat):Bool:=
 (List.range l.length).all λi=>match l[i]? with
  | none=>true
  | some o=>
   (o.after.toList.all λe=> !Region.binds .any e || decide (e.on<i)) &&
   (match o.guard with | none=>true | some (j,_)=>(o.after.toList.any λe=>Region.binds .any e && e.on==j) && (dstAt l j).isSome) &&
   (match o.dst with | none=>true | some d=>decide (d < n) && (List.range l.length).all λj=>j==i || dstAt l j !=some d)
theorem localB_spec {l:List Oper} {n:Nat}(h:localB l n=true) {i:Nat} {o:Oper}(u:l[i]? =some o):
  (∀e∈o.after.toList,Region.binds .any e=true->e.on<i)/\
  (∀j b,o.guard=some (j,b)->(∃e∈o.after.toList,Region.binds .any e=true/\e.on=j)/\(dstAt l j).isSome=true)/\
  (∀d,o.dst=some d->d<n/\∀j,j≠i->dstAt l j≠some d):=by
 have q:i<l.length:=(List.getElem?_eq_some_iff.1 u).1;have k:=List.all_eq_true.1 h i (List.mem_range.2 q);simp only[u,Bool.and_eq_true]at k;obtain⟨⟨k,m⟩,p⟩:=k;refine⟨λe r a=>?_,λj b x=>?_,λd y=>?_⟩
 ·have:=List.all_eq_true.1 k e r;simp only[a,Bool.not_true,Bool.false_or,decide_eq_true_eq]at this;exact this
 ·rw[x]at m;simp only[Bool.and_eq_true]at m;obtain⟨e,r,a⟩:=List.any_eq_true.1 m.1;simp only[Bool.and_eq_true,beq_iff_eq]at a;exact⟨⟨e,r,a.1,a.2⟩,m.2⟩
 rw[y]at p;simp only[Bool.and_eq_true,decide_eq_true_eq]at p;refine⟨p.1,λj z c=>?_⟩;have s:j<l.length:=by
  rcases Nat.lt_or_ge j l.length with h | h
  ·exact h
  simp[dstAt,List.getElem?_eq_none h]at c
 have:=List.all_eq_true.1 p.2 j (List.mem_range.2 s);simp[c,z]at this
theorem pre_of {l:List Oper} {V:Nat->World->Value->Prop} {a:Act} {w:World} {b:Array Bool}(j:∀i d,dstAt l i=some d->b.getD i false=true->V i w (a.eval (.tmp d))):
  ∀(es:List Edge),(∀e∈es,Region.binds .any e=true->b.getD e.on false=true)->PreL l V a w es
 | [],_=>trivial
 | e::r,h=>by
  refine⟨?_,pre_of j r λk c=>h k (by simp[c])⟩
  split
  ·rename_i m
   split
   ·rename_i d n;exact j _ _ n (h e (by simp) m)
   trivial
  trivial
theorem eval_put(a:Act)(d:Tmp)(v:Value)(s:Tmp):(a.put (some d) v).eval (.tmp s)=if s=d/\d<a.tmps.size then v else a.eval (.tmp s):=by
 simp only[Act.eval,Act.put];by_cases h:s=d
 ·subst h;by_cases b:s<a.tmps.size
  ·simp[b]
  simp[b]
 have c:¬d=s:=λe=>h e.symm;simp[h,c]
theorem countP_lt {p q:Nat->Bool}:∀(l:List Nat) (x:Nat),x∈l->(∀y∈l,p y=true->q y=true)->p x=false->q x=true->l.countP p<l.countP q
 | [],_,h,_,_,_=>by cases h
 | y::l,x,h,hi,hp,hq=>by
  have d:l.countP p<=l.countP q:=List.countP_mono_left λz a=>hi z (by simp[a])
  rw[List.countP_cons,List.countP_cons];rcases List.mem_cons.1 h with e | b
  ·subst e;rw[hp,hq];simp;omega
  have:=countP_lt l x b (λz a=>hi z (by simp[a])) hp hq
  have c:=hi y (by simp)
  cases h1:p y with
  | false=>
   simp only[Bool.false_eq_true,if_false]
   split <;> omega
  | true=>rw[c h1];simp;omega
end
section
variable {P : Program}
def putsL:List Oper->List Value->Act->Act
 | [],_,a=>a
 | o::r,vs,a=>putsL r vs.tail (a.put o.dst (vs.headD undef))
def valsOf(A:Act)(l:List Oper):List Value:=l.map λo=>match o.dst with | some d=>A.eval (.tmp d) | none=>undef
theorem put_size(a:Act)(d:Option Tmp)(v:Value):(a.put d v).tmps.size=a.tmps.size:=by
 cases d <;> simp[Act.put]
theorem put_defers(a:Act)(d:Option Tmp)(v:Value):(a.put d v).defers=a.defers:=by
 cases d <;> rfl
theorem putsL_size:∀(l:List Oper) (b:List Value) (a:Act),(putsL l b a).tmps.size=a.tmps.size
 | [],_,_=>rfl
 | o::r,b,a=>by rw[putsL,putsL_size r,put_size]
theorem putsL_defers:∀(l:List Oper) (b:List Value) (a:Act),(putsL l b a).defers=a.defers
 | [],_,_=>rfl
 | o::r,b,a=>by rw[putsL,putsL_defers r,put_defers]
theorem putsL_eval(A:Act):∀(l:List Oper) (a:Act),A.tmps.size=a.tmps.size->(∀s,(l.all λo=>o.dst !=some s)=true->A.eval (.tmp s)=a.eval (.tmp s))->
  ∀s,(putsL l (valsOf A l) a).eval (.tmp s)=A.eval (.tmp s)
 | [],a,_,h,s=>(h s rfl).symm
 | o::r,a,hs,h,s=>by
  rw[putsL];refine putsL_eval A r _ (by rw[put_size];exact hs) (λs e=>?_) s
  show A.eval (.tmp s)=(a.put o.dst ((valsOf A (o::r)).headD undef)).eval (.tmp s);by_cases b:o.dst=some s
  ·have j:((valsOf A (o::r)).headD undef)=A.eval (.tmp s):=by simp[valsOf,b]
   rw[j,b,eval_put]
   split
   ·rfl
   rename_i k;have c:¬s<a.tmps.size:=λh=>k ⟨rfl,h⟩;have m:¬s<A.tmps.size:=λh=>c (hs ▸ h);simp[Act.eval,c,m]
  rw[h s (by simp only[List.all_cons,Bool.and_eq_true];exact⟨by simpa using b,e⟩)]
  cases hod:o.dst with
  | none=>rfl
  | some d=>
   rw[eval_put,if_neg];rintro⟨rfl,_⟩;exact b hod
theorem act_ext {a b:Act}(c:a.defers=b.defers)(e:a.tmps.size=b.tmps.size)(h:∀s,a.eval (.tmp s)=b.eval (.tmp s)):a=b:=by
 obtain⟨t,d⟩:=a;obtain⟨j,k⟩:=b;obtain rfl:d=k:=c;have:t=j:=by
  apply Array.ext e;intro i l m;have:=h i;simpa[Act.eval,l,m]using this
 rw[this]
end
section
variable {P : Program}
def LocS(P:Program)(l:List Oper)(V:Nat->World->Value->Prop)(Ga Gb:World->Prop)(le:World->World->Prop)(a0:Act)(Q:Exit->Act->World->Prop)(i:Nat)(o:Oper):Prop:=
 ∀(a:Act) (w:World),Ga w->OutL l a0 a->PreL l V a w o.after.toList->∀K:Act->World->Prop,(∀v w',V i w' v->Gb w'->le w w'->K (a.put o.dst v) w')->o.wp P a w K Q
def OblS(P:Program)(l:List Oper)(V:Nat->World->Value->Prop)(G:Nat->World->Prop)(le:World->World->Prop)(a0:Act)(Q:Exit->Act->World->Prop):Nat->List (Option Nat)->List Oper->Prop
 | _,_,[]=>True
 | i,[],o::r=>(∀k,LocS P l V (G k) (G k) le a0 Q i o)/\OblS P l V G le a0 Q (i+1) [] r
 | i,none::st,o::r=>(∀k,LocS P l V (G k) (G k) le a0 Q i o)/\OblS P l V G le a0 Q (i+1) st r
 | i,some s::st,o::r=>LocS P l V (G s) (G (s+1)) le a0 Q i o/\OblS P l V G le a0 Q (i+1) st r
def stageAt(st:List (Option Nat))(i:Nat):Option Nat:=(st[i]?).join
theorem OblS.at {l:List Oper} {V:Nat->World->Value->Prop} {G:Nat->World->Prop} {le:World->World->Prop} {b:Act} {Q:Exit->Act->World->Prop}:
  ∀(r:List Oper) (a:List (Option Nat)) (k i:Nat) (o:Oper),OblS P l V G le b Q k a r->r[i]? =some o->
   match stageAt a i with | none=>∀q,LocS P l V (G q) (G q) le b Q (k+i) o | some s=>LocS P l V (G s) (G (s+1)) le b Q (k+i) o
 | [],_,_,_,_,_,h=>by simp at h
 | o::r,[],k,0,o',h,h'=>by simp at h';subst h';exact h.1
 | o::r,none::a,k,0,o',h,h'=>by simp at h';subst h';exact h.1
 | o::r,some s::a,k,0,o',h,h'=>by simp at h';subst h';exact h.1
 | o::r,[],k,i+1,o',h,h'=>by
  have:=OblS.at r [] (k+1) i o' h.2 (by simpa using h')
  rw[show k+1+i=k+(i+1) by omega]at this
  simpa[stageAt]using this
 | o::r,none::a,k,i+1,o',h,h'=>by
  have:=OblS.at r a (k+1) i o' h.2 (by simpa using h')
  rw[show k+1+i=k+(i+1) by omega]at this
  simpa[stageAt]using this
 | o::r,some s::a,k,i+1,o',h,h'=>by
  have:=OblS.at r a (k+1) i o' h.2 (by simpa using h')
  rw[show k+1+i=k+(i+1) by omega]at this
  simpa[stageAt]using this
def seqB(l:List Oper)(S:List Nat):Bool:=
 S.all (λi=>decide (i<l.length)) && (List.range S.length).all λs=>match s with
  | 0=>true
  | s+1=>match S[s+1]?,S[s]? with
   | some i,some j=>decide (j≠i) && (match l[i]? with | some o=>o.after.toList.any λe=>Region.binds .any e && e.on==j | none=>false)
   | _,_=>false
def stageB(n:Nat)(st:List (Option Nat))(S:List Nat):Bool:=
 ((List.range n).all λi=>match stageAt st i with | none=> !S.contains i | some s=>S[s]? ==some i) && (List.range S.length).all λs=>match S[s]? with | some i=>stageAt st i==some s | none=>false
structure SInv(l:List Oper)(S:List Nat)(V:Nat->World->Value->Prop)(G:Nat->World->Prop)(a0:Act)(listed:Array Bool)(a:Act)(w:World):Prop where
 stage:∃k,G k w/\k<=S.length/\∀s i,S[s]? =some i->(listed.getD i false=true↔s<k)
 defers:a.defers=a0.defers
 size:a.tmps.size=a0.tmps.size
 lsize:listed.size=l.length
 out:OutL l a0 a
 left:∀i d,dstAt l i=some d->listed.getD i false=true->V i w (a.eval (.tmp d))
theorem getD_set_same {a:Array Bool} {i:Nat}(h:i<a.size):(a.setIfInBounds i true).getD i false=true:=by simp[h]
theorem SInv.step {l:List Oper} {S:List Nat} {V:Nat->World->Value->Prop} {G:Nat->World->Prop} {le:World->World->Prop} {x a:Act} {w w':World} {b:Array Bool}(m:∀i w w' v,le w w'->V i w v->V i w' v)
  (h:SInv l S V G x b a w) {n:Nat} (E:n=x.tmps.size) (F:localB l n=true) {i:Nat} {o:Oper} (u:l[i]? =some o) {v:Value} (I:V i w' v) (p:le w w')
  (z:∃k,G k w'/\k<=S.length/\∀s j,S[s]? =some j->((b.setIfInBounds i true).getD j false=true↔s<k)):
  SInv l S V G x (b.setIfInBounds i true) (a.put o.dst v) w':=by
 obtain⟨_,_,J⟩:=localB_spec F u;have K:i<l.length:=(List.getElem?_eq_some_iff.1 u).1;have q:dstAt l i=o.dst:=by simp[dstAt,u]
 cases hd:o.dst with
 | none=>
  refine⟨z,h.defers,h.size,by simp[h.lsize],h.out,λj d c r=>?_⟩
  by_cases e:i=j
  ·subst e;rw[q,hd]at c;cases c
  rw[getD_set_ne false e]at r;exact m _ _ _ _ p (h.left j d c r)
 | some d=>
  obtain⟨y,L⟩:=J d hd;refine⟨z,h.defers,by simp[Act.put,h.size],by simp[h.lsize],λs D=>?_,λj M c r=>?_⟩
  ·rw[eval_put,if_neg]
   ·exact h.out s D
   rintro⟨rfl,_⟩;have:=List.all_eq_true.1 D o (List.mem_of_getElem? u);simp[hd]at this
  rw[eval_put];by_cases e:i=j
  ·subst e;rw[q,hd]at c;cases c
   rw[if_pos ⟨rfl,by rw[h.size,<-E];exact y⟩]
   exact I
  rw[if_neg]
  ·rw[getD_set_ne false e]at r;exact m _ _ _ _ p (h.left j M c r)
  rintro⟨rfl,_⟩;exact L j (λN=>e N.symm) c
theorem wpAny_of_seq {l:List Oper} {st:List (Option Nat)} {S:List Nat} {V:Nat->World->Value->Prop} {G:Nat->World->Prop} {le:World->World->Prop} {R:Act} {Q:Exit->Act->World->Prop}
  (ad:∀i w w' v,le w w'->V i w v->V i w' v) (hB:localB l R.tmps.size=true) (hS:seqB l S=true) (hT:stageB l.length st S=true) (hO:OblS P l V G le R Q 0 st l) (hg:Gd l V l)
  (hQ:∀a w,G S.length w->a.defers=R.defers->a.tmps.size=R.tmps.size->OutL l R a->(∀i d,dstAt l i=some d->V i w (a.eval (.tmp d)))->Q .normal a w):
  ∀(fuel:Nat) (c:Array Bool) (a:Act) (w:World),(List.range l.length).countP (λi=> !c.getD i true)<=fuel->SInv l S V G R c a w->wpAny P .any l.toArray Q fuel c a w:=by
 have done:∀(c:Array Bool) (a:Act) (w:World),SInv l S V G R c a w->Region.ready .any l.toArray c=[]->Q .normal a w:=by
  intro c a w inv hr;have all:∀n i,i<n->i<l.length->c.getD i true=true:=by
   intro n
   induction n with
   | zero=>intro i hi;omega
   | succ n ih=>
    intro i ap m
    cases hl:c.getD i true with
    | true=>rfl
    | false=>
     have L:i∈Region.ready .any l.toArray c:=by
      refine mem_ready.2 ⟨hl,l[i],by simp[m],λe U I=>?_⟩
      have ar:=(localB_spec hB (List.getElem?_eq_getElem m)).1 e (by simpa using U) I
      have:=ih e.on (by omega) (by omega)
      have z:e.on<c.size:=by rw[inv.lsize];omega
      simp[z]at this ⊢;exact this
     rw[hr]at L;cases L
  have M:∀i,i<l.length->c.getD i false=true:=λi m=>by
   have Y:=all (i+1) i (by omega) m
   have z:i<c.size:=by rw[inv.lsize];exact m
   simp[z]at Y ⊢;exact Y
  obtain⟨k,J,hk,x⟩:=inv.stage;have Z:k=S.length:=by
   rcases Nat.lt_or_ge k S.length with h | h
   ·have Y:=(x k S[k] (List.getElem?_eq_getElem h));have h2:=List.all_eq_true.1 (Bool.and_eq_true_iff.1 hS).1 S[k] (List.getElem_mem h);have:=Y.1 (M _ (by simpa using h2))
    omega
   omega
  subst Z;refine hQ a w J inv.defers inv.size inv.out λi d hd=>?_;have m:i<l.length:=by
   rcases Nat.lt_or_ge i l.length with h | h
   ·exact h
   simp[dstAt,List.getElem?_eq_none h]at hd
  exact inv.left i d hd (M i m)
 intro fuel
 induction fuel with
 | zero=>
  intro c a w hc inv;have hr:Region.ready .any l.toArray c=[]:=by
   rw[List.eq_nil_iff_forall_not_mem];intro i hi;have D:=(mem_ready.1 hi).1;have m:i<l.length:=by
    obtain⟨_,o,ho,_⟩:=mem_ready.1 hi;have:=(Array.getElem?_eq_some_iff.1 ho).1;simpa using this
   have:0<(List.range l.length).countP (λi=> !c.getD i true):=List.countP_pos_iff.2 ⟨i,List.mem_range.2 m,by rw[D];rfl⟩
   omega
  exact⟨hr,done c a w inv hr⟩
 | succ fuel ih=>
  intro c a w hc inv;refine⟨λhr=>done c a w inv hr,λi hi=>?_⟩;obtain⟨D,o,ho,E⟩:=mem_ready.1 hi;have q:l[i]? =some o:=by simpa using ho
  have m:i<l.length:=(List.getElem?_eq_some_iff.1 q).1;have p:=OblS.at l st 0 i o hO q;rw[Nat.zero_add]at p;have XU:PreL l V a w o.after.toList:=pre_of inv.left _ λe U I=>E e (by simpa using U) I
  have r:(List.range l.length).countP (λj=> !(c.setIfInBounds i true).getD j true)<=fuel:=by
   have:(List.range l.length).countP (λj=> !(c.setIfInBounds i true).getD j true)<(List.range l.length).countP (λj=> !c.getD j true):=by
    refine countP_lt _ i (List.mem_range.2 m) ?_ ?_ ?_
    ·intro j _ u;by_cases e:i=j
     ·subst e;have z:i<c.size:=by rw[inv.lsize];exact m
      simp[z]at u
     rw[getD_set_ne true e]at u;exact u
    ·have z:i<c.size:=by rw[inv.lsize];exact m
     simp[z]
    rw[D];rfl
   omega
  have aa:Region.wanted o (yielded l.toArray a.tmps)=true:=by
   unfold Region.wanted
   cases hgd:o.guard with
   | none=>rfl
   | some jb=>
    obtain⟨j,b⟩:=jb;obtain⟨⟨e,U,I,rfl⟩,ak⟩:=(localB_spec hB q).2.1 j b hgd;obtain⟨d,hd⟩:=Option.isSome_iff_exists.1 ak;have K:=E e (by simpa using U) I
    have hv:=inv.left e.on d hd K;have ae:=Gd.at l i o hg q;rw[hgd]at ae;have N:=ae w _ hv;have af:e.on<l.length:=by
     rcases Nat.lt_or_ge e.on l.length with h | h
     ·exact h
     simp[dstAt,List.getElem?_eq_none h]at hd
    have al:=((localB_spec hB (List.getElem?_eq_getElem af)).2.2 d (by simpa[dstAt,af]using hd)).1
    have ag:d<a.tmps.size:=by rw[inv.size];exact al
    have h3:a.tmps[d]? =some (.bool b):=by
     have e1:a.eval (.tmp d)=a.tmps[d]:=by simp[Act.eval,ag]
     rw[e1]at N;rw[Array.getElem?_eq_getElem ag,N]
    have h4:(l.toArray[e.on]?.bind (·.dst))=some d:=by simpa[dstAt]using hd
    simp only[yielded,h4,Option.bind_some,h3];simp
  obtain⟨k,J,am,x⟩:=inv.stage;have F:=List.all_eq_true.1 (Bool.and_eq_true_iff.1 hT).1 i (List.mem_range.2 m);have O:i<c.size:=by rw[inv.lsize];exact m
  unfold wpOp;simp only[ho,aa,if_true]
  left
  cases z:stageAt st i with
  | none=>
   rw[z]at p F;refine p k a w J inv.out XU _ λv w' hv hG ab=>ih _ _ _ r (inv.step ad rfl hB q hv ab ⟨k,hG,am,λs j u=>?_⟩);have an:i≠j:=by
    rintro rfl;have:S.contains i=true:=by
     rw[List.contains_iff_mem];exact List.mem_of_getElem? u
    simp only[this,Bool.not_true]at F;cases F
   rw[getD_set_ne false an];exact x s j u
  | some s=>
   rw[z]at p F;have y:S[s]? =some i:=by simpa using F
   have ao:s<S.length:=(List.getElem?_eq_some_iff.1 y).1;have ah:c.getD i false=false:=by
    simp[O]at D ⊢;exact D
   have au:¬s<k:=λh=>by
    have:=(x s i y).2 h;rw[ah]at this;cases this
   have av:s<=k:=by
    match s,y with
    | 0,_=>omega
    | s+1,y=>
     have Y:=List.all_eq_true.1 (Bool.and_eq_true_iff.1 hS).2 (s+1) (List.mem_range.2 ao);have ai:S[s]? =some S[s]:=List.getElem?_eq_getElem (by omega)
     simp only[y,ai,q,Bool.and_eq_true]at Y;obtain⟨e,U,I⟩:=List.any_eq_true.1 Y.2;simp only[Bool.and_eq_true,beq_iff_eq]at I;have K:=E e (by simpa using U) I.1
     rw[I.2]at K;have:=(x s S[s] ai).1 K;omega
   have Z:k=s:=by omega
   subst Z;refine p a w J inv.out XU _ λv w' hv hG ab=>ih _ _ _ r (inv.step ad rfl hB q hv ab ⟨k+1,hG,by omega,λs' j u=>?_⟩)
   by_cases ac:i=j
   ·subst ac;have aj:s'<S.length:=(List.getElem?_eq_some_iff.1 u).1;have h2:=List.all_eq_true.1 (Bool.and_eq_true_iff.1 hT).2 s' (List.mem_range.2 aj);simp only[u,z]at h2;have:k=s':=by simpa using h2
    subst this;simp[O]
   rw[getD_set_ne false ac,x s' j u];refine⟨λh=>by omega,λh=>?_⟩
   have:s'≠k:=by
    rintro rfl;rw[y]at u;injection u with u
    exact ac u
   omega
theorem wp_region_seq_frame {id:Nat} {l:List Oper} {b:Act} {w:World} {Q:Exit->Act->World->Prop}(y:P.follows .mixedOrders=true)(r:List (Option Nat))(S:List Nat)(V:Nat->World->Value->Prop)(G:Nat->World->Prop)(le:World->World->Prop)
  (k:∀i w w' v,le w w'->V i w v->V i w' v) (z:localB l b.tmps.size=true) (D:seqB l S=true) (E:stageB l.length r S=true) (F:G 0 { w with drawn:=w.drawn+1 }) (I:Gd l V l) (J:OblS P l V G le b Q 0 r l)
  (K:∀m w,G S.length w->m.length=l.length->(∀i d v,dstAt l i=some d->m[i]? =some v->V i w v)->Q .normal (putsL l m b) w):
  (Code.region id l.toArray true).wp P Q b w:=by
 refine wp_region_any y ?_;refine wpAny_of_seq k z D E J I (λa w n L u M c=>?_) l.toArray.size (Array.replicate l.toArray.size false) b { w with drawn:=w.drawn+1 } (Nat.le_trans List.countP_le_length (by simp))
  ⟨⟨0,F,Nat.zero_le _,λs i _=>⟨λh=>(by rw[getD_replicate_false]at h;cases h),λh=>(by omega)⟩⟩,rfl,rfl,by simp,λ_ _=>rfl,λi d _ x=>by rw[getD_replicate_false]at x;cases x⟩
 have e:putsL l (valsOf a l) b=a:=act_ext ((putsL_defers _ _ _).trans L.symm) ((putsL_size _ _ _).trans u.symm) (putsL_eval a l b u M);rw[<-e];refine K _ w n (by simp[valsOf]) λi d v hid j=>?_
 have h:=c i d hid;have p:(valsOf a l)[i]? =some (a.eval (.tmp d)):=by
  rw[dstAt]at hid
  cases ho:l[i]? with
  | none=>rw[ho]at hid;cases hid
  | some o=>
   rw[ho]at hid;have q:o.dst=some d:=hid;simp[valsOf,ho,q]
 rw[p]at j;injection j with j
 rw[<-j];exact h
end
def vOfC(Vs:List Value):Nat->World->Value->Prop:=λi _ v=>v=Vs.getD i undef
section
variable {P : Program}
end
def Exit.jumps(J:Nat->Act->World->Prop)(Q:Exit->Act->World->Prop):Exit->Act->World->Prop
 | .goto l,a,w=>J l a w
 | e,a,w=>Q e a w
section
variable {P : Program} {a : Act} {w : World} {Q : Exit -> Act -> World -> Prop}
theorem wp_scope_two {c m D:Code}(E F:Nat)(I s:Act->World->Prop)(μ:Act->World->Nat)(S:findLabel c E=some m)(N:findLabel c F=some (Code.skip.seq D))
  (x:∀a w,I a w->m.wp P (Exit.jumps (λ_ _ _=>False) Q) a w)
  (r:∀a w,s a w->D.wp P (Exit.jumps (λl o w'=>(l=E/\I o w')∨(l=F/\s o w'/\μ o w'<μ a w)) Q) a w)
  (first:(∀a w,s a w->D.wp P (Exit.jumps (λl o w'=>(l=E/\I o w')∨(l=F/\s o w')) Q) a w)->c.wp P (Exit.jumps (λl o w'=>(l=E/\I o w')∨(l=F/\s o w')) Q) a w):
  (Code.scope c).wp P Q a w:=by
 obtain⟨p,J⟩:=Nm (Code.skip.seq D);rw[<-J]at N;have lift:∀{Q:Exit->Act->World->Prop} {a w},D.wp P Q a w->p.wp P Q a w:=λh=>by
  rw[J];exact wp_seq (wp_skip h)
 have y:∀a w,s a w->D.wp P (Exit.jumps (λl o w'=>(l=E/\I o w')∨(l=F/\s o w')) Q) a w:=λa w h=>wp_mono (r a w h) (by
  intro e o w' h
  cases e with
  | goto l=>exact h.imp_right λh=>⟨h.1,h.2.1⟩
  | _=>exact h)
 intro b k z;have O:gotoIn E (.inScope c::k)=some (.code m::.inScope c::k):=by simp[gotoIn,S]
 have R:gotoIn F (.inScope c::k)=some (.code p::.inScope c::k):=by simp[gotoIn,N]
 have u:∀a w,I a w->∃e o w',Q e o w'/\Arrives P (lone (b.at a (.code m::.inScope c::k)) z w) b k z e o w':=by
  intro a w M;obtain⟨e,a₁,w₁,j,d⟩:=x a w M b (.inScope c::k) z
  cases e with
  | normal=>exact⟨.normal,a₁,w₁,j,Steps.trans d (.one step_inScope)⟩
  | exit id=>exact⟨.exit id,a₁,w₁,j,λK L=>d K (by simp[exitTo,L])⟩
  | goto l'=>exact j.elim
  | ret=>exact⟨_,a₁,w₁,j,d⟩
  | panic ch=>exact⟨_,a₁,w₁,j,d⟩
  | outgrown=>exact⟨_,a₁,w₁,j,d⟩
 have key:∀n a w,μ a w=n->s a w->∃e o w',Q e o w'/\Arrives P (lone (b.at a (.code p::.inScope c::k)) z w) b k z e o w':=by
  intro n
  induction n using Nat.strongRecOn with
  | _ n ih=>
   intro a w Y M;obtain⟨e,a₁,w₁,j,d⟩:=lift (r a w M) b (.inScope c::k) z
   cases e with
   | normal=>exact⟨.normal,a₁,w₁,j,Steps.trans d (.one step_inScope)⟩
   | exit id=>exact⟨.exit id,a₁,w₁,j,λK L=>d K (by simp[exitTo,L])⟩
   | goto l'=>
    rcases j with⟨rfl,q⟩ | ⟨rfl,q,U⟩
    ·obtain⟨e₂,a₂,w₂,j₂,d₂⟩:=u a₁ w₁ q;exact⟨e₂,a₂,w₂,j₂,.of_steps (d _ O) d₂⟩
    obtain⟨e₂,a₂,w₂,j₂,d₂⟩:=ih _ (by omega) a₁ w₁ rfl q
    exact⟨e₂,a₂,w₂,j₂,.of_steps (d _ R) d₂⟩
   | ret=>exact⟨_,a₁,w₁,j,d⟩
   | panic ch=>exact⟨_,a₁,w₁,j,d⟩
   | outgrown=>exact⟨_,a₁,w₁,j,d⟩
 obtain⟨e,a₁,w₁,j,d⟩:=first y b (.inScope c::k) z
 cases e with
 | normal=>exact⟨.normal,a₁,w₁,j,.head step_scope (Steps.trans d (.one step_inScope))⟩
 | exit id=>exact⟨.exit id,a₁,w₁,j,λK L=> .head step_scope (d K (by simp[exitTo,L]))⟩
 | goto l'=>
  rcases j with⟨rfl,q⟩ | ⟨rfl,q⟩
  ·obtain⟨e₂,a₂,w₂,j₂,d₂⟩:=u a₁ w₁ q;exact⟨e₂,a₂,w₂,j₂,.of_steps (.head step_scope (d _ O)) d₂⟩
  obtain⟨e₂,a₂,w₂,j₂,d₂⟩:=key _ a₁ w₁ rfl q;exact⟨e₂,a₂,w₂,j₂,.of_steps (.head step_scope (d _ R)) d₂⟩
 | ret=>exact⟨_,a₁,w₁,j,.of_steps (.one step_scope) d⟩
 | panic ch=>exact⟨_,a₁,w₁,j,.of_steps (.one step_scope) d⟩
 | outgrown=>exact⟨_,a₁,w₁,j,.of_steps (.one step_scope) d⟩
end
theorem frame_list(A:Array Value):A.toList=(List.range A.size).map λi=>A.getD i undef:=by
 apply List.ext_getElem
 ·simp
 intro i a b;simp at a;simp[a]
open Go
section
variable {P : Program}
def needsB(l:List Oper):Nat->Nat->Nat->Bool
 | 0,_,_=>false
 | f+1,j,i=>match l[j]? with | none=>false | some o=>o.after.toList.any λe=>Region.binds .any e && (e.on==i || needsB l f e.on i)
def lateB(l:List Oper)(i s:Nat):Bool:=(List.range l.length).all λj=>dstAt l j !=some s || needsB l l.length j i
def OutAt(l:List Oper)(a0 a:Act)(i:Nat):Prop:=∀s,lateB l i s=true->a.eval (.tmp s)=a0.eval (.tmp s)
theorem needs_listed {l:List Oper} {a:Array Bool}(c:∀j o,l[j]? =some o->a.getD j false=true->∀e∈o.after.toList,Region.binds .any e=true->a.getD e.on false=true):
  ∀(f j i:Nat),needsB l f j i=true->a.getD j false=true->a.getD i false=true
 | 0,_,_,h,_=>by simp[needsB]at h
 | f+1,j,i,h,hj=>by
  rw[needsB]at h
  cases ho:l[j]? with
  | none=>rw[ho]at h;cases h
  | some o=>
   rw[ho]at h;obtain⟨e,k,b⟩:=List.any_eq_true.1 h;simp only[Bool.and_eq_true,Bool.or_eq_true,beq_iff_eq]at b;have d:=c j o ho hj e k b.1;rcases b.2 with rfl | b
   ·exact d
   exact needs_listed c f _ _ b d
theorem out_of_late {l:List Oper} {e a:Act} {b:Array Bool}(h:∀s,(∀j,dstAt l j=some s->b.getD j false=false)->a.eval (.tmp s)=e.eval (.tmp s)):OutL l e a:=λs k=>
 h s λj c=>by
  rw[dstAt]at c
  cases ho:l[j]? with
  | none=>rw[ho]at c;cases c
  | some o=>
   rw[ho]at c;have m:=List.all_eq_true.1 k o (List.mem_of_getElem? ho);have d:o.dst=some s:=c;simp[d]at m
end
open Go
section
variable {P : Program}
def LocY(P:Program)(l:List Oper)(V:Nat->Nat->World->Value->Prop)(G:Nat->World->Prop)(le:World->World->Prop)(a0:Act)(Q:Exit->Act->World->Prop)(k i:Nat)(o:Oper):Prop:=
 ∀(a:Act) (w:World),G k w->OutAt l a0 a i->PreL l (λj=>V j k) a w o.after.toList->∀K:Act->World->Prop,(∀v w',V i k w' v->G k w'->le w w'->K (a.put o.dst v) w')->o.wp P a w K Q
def LocX(P:Program)(l:List Oper)(V:Nat->Nat->World->Value->Prop)(G:Nat->World->Prop)(a0:Act)(Q:Exit->Act->World->Prop)(s i:Nat)(o:Oper):Prop:=
 ∀(a:Act) (w:World),G s w->OutAt l a0 a i->PreL l (λj=>V j s) a w o.after.toList->∀K:Act->World->Prop,(∀v w',V i (s+1) w' v->G (s+1) w'->(∀j u,j≠i->V j s w u->V j (s+1) w' u)->K (a.put o.dst v) w')->o.wp P a w K Q
structure YInv(l:List Oper)(S:List Nat)(V:Nat->Nat->World->Value->Prop)(G:Nat->World->Prop)(a0:Act)(listed:Array Bool)(a:Act)(w:World):Prop where
 stage:∃k,G k w/\k<=S.length/\(∀s i,S[s]? =some i->(listed.getD i false=true↔s<k))/\∀i d,dstAt l i=some d->listed.getD i false=true->V i k w (a.eval (.tmp d))
 defers:a.defers=a0.defers
 size:a.tmps.size=a0.tmps.size
 lsize:listed.size=l.length
 late:∀s,(∀j,dstAt l j=some s->listed.getD j false=false)->a.eval (.tmp s)=a0.eval (.tmp s)
 closed:∀j o,l[j]? =some o->listed.getD j false=true->∀e∈o.after.toList,Region.binds .any e=true->listed.getD e.on false=true
theorem YInv.step {l:List Oper} {S:List Nat} {V:Nat->Nat->World->Value->Prop} {G:Nat->World->Prop} {I a:Act} {w w':World} {b:Array Bool}
  (h:YInv l S V G I b a w) {n:Nat} (U:n=I.tmps.size) (Y:localB l n=true) {i:Nat} {o:Oper} (D:l[i]? =some o) (J:∀e∈o.after.toList,Region.binds .any e=true->b.getD e.on false=true) {v:Value}
  {k:Nat} (M:G k w') (N:k<=S.length) (u:∀s j,S[s]? =some j->((b.setIfInBounds i true).getD j false=true↔s<k)) (Z:V i k w' v) (hold:∀j d,j≠i->dstAt l j=some d->b.getD j false=true->V j k w' (a.eval (.tmp d))):
  YInv l S V G I (b.setIfInBounds i true) (a.put o.dst v) w':=by
 obtain⟨_,_,h3⟩:=localB_spec Y D;have K:i<l.length:=(List.getElem?_eq_some_iff.1 D).1;have q:dstAt l i=o.dst:=by simp[dstAt,D]
 have p:(b.setIfInBounds i true).getD i false=true:=getD_set_same (by rw[h.lsize];exact K)
 have grow:∀j,b.getD j false=true->(b.setIfInBounds i true).getD j false=true:=λj c=>by
  by_cases e:i=j
  ·subst e;exact p
  rw[getD_set_ne false e];exact c
 have back:∀j,(b.setIfInBounds i true).getD j false=false->b.getD j false=false:=λj c=>by
  cases hq:b.getD j false with
  | false=>rfl
  | true=>rw[grow j hq]at c;cases c
 have m:∀j E,l[j]? =some E->(b.setIfInBounds i true).getD j false=true->∀e∈E.after.toList,Region.binds .any e=true->(b.setIfInBounds i true).getD e.on false=true:=by
  intro j E r O e Q x;by_cases R:i=j
  ·subst R;rw[D]at r;cases r
   exact grow _ (J e Q x)
  rw[getD_set_ne false R]at O;exact grow _ (h.closed j E r O e Q x)
 cases hd:o.dst with
 | none=>
  refine⟨⟨k,M,N,u,λj d c y=>?_⟩,h.defers,h.size,by simp[h.lsize],λs F=>h.late s λj c=>back j (F j c),m⟩
  by_cases e:i=j
  ·subst e;rw[q,hd]at c;cases c
  rw[getD_set_ne false e]at y;exact hold j d (λz=>e z.symm) c y
 | some d=>
  obtain⟨L,hu⟩:=h3 d hd;refine⟨⟨k,M,N,u,λj d' c y=>?_⟩,h.defers,by simp[Act.put,h.size],by simp[h.lsize],λs F=>?_,m⟩
  ·rw[eval_put];by_cases e:i=j
   ·subst e;rw[q,hd]at c;cases c
    rw[if_pos ⟨rfl,by rw[h.size,<-U];exact L⟩]
    exact Z
   rw[if_neg]
   ·rw[getD_set_ne false e]at y;exact hold j d' (λz=>e z.symm) c y
   rintro⟨rfl,_⟩;exact hu j (λz=>e z.symm) c
  rw[eval_put,if_neg]
  ·exact h.late s λj c=>back j (F j c)
  rintro⟨rfl,_⟩;have:=F i (by rw[q,hd])
  rw[p]at this;cases this
end
section
variable {P : Program}
def OblK(P:Program)(sk:Nat->Bool)(l:List Oper)(V:Nat->Nat->World->Value->Prop)(G:Nat->World->Prop)(le:World->World->Prop)(a0:Act)(Q:Exit->Act->World->Prop):Nat->List (Option Nat)->List Oper->Prop
 | _,_,[]=>True
 | i,[],o::r=>(sk i=false->∀k,LocY P l V G le a0 Q k i o)/\OblK P sk l V G le a0 Q (i+1) [] r
 | i,none::st,o::r=>(sk i=false->∀k,LocY P l V G le a0 Q k i o)/\OblK P sk l V G le a0 Q (i+1) st r
 | i,some s::st,o::r=>(sk i=false->LocX P l V G a0 Q s i o)/\OblK P sk l V G le a0 Q (i+1) st r
theorem OblK.at {b:Nat->Bool} {l:List Oper} {V:Nat->Nat->World->Value->Prop} {G:Nat->World->Prop} {le:World->World->Prop} {c:Act} {Q:Exit->Act->World->Prop}:
  ∀(r:List Oper) (a:List (Option Nat)) (k i:Nat) (o:Oper),OblK P b l V G le c Q k a r->r[i]? =some o->
   match stageAt a i with | none=>b (k+i)=false->∀q,LocY P l V G le c Q q (k+i) o | some s=>b (k+i)=false->LocX P l V G c Q s (k+i) o
 | [],_,_,_,_,_,h=>by simp at h
 | o::r,[],k,0,o',h,h'=>by simp at h';subst h';exact h.1
 | o::r,none::a,k,0,o',h,h'=>by simp at h';subst h';exact h.1
 | o::r,some s::a,k,0,o',h,h'=>by simp at h';subst h';exact h.1
 | o::r,[],k,i+1,o',h,h'=>by
  have:=OblK.at r [] (k+1) i o' h.2 (by simpa using h')
  rw[show k+1+i=k+(i+1) by omega]at this
  simpa[stageAt]using this
 | o::r,none::a,k,i+1,o',h,h'=>by
  have:=OblK.at r a (k+1) i o' h.2 (by simpa using h')
  rw[show k+1+i=k+(i+1) by omega]at this
  simpa[stageAt]using this
 | o::r,some s::a,k,i+1,o',h,h'=>by
  have:=OblK.at r a (k+1) i o' h.2 (by simpa using h')
  rw[show k+1+i=k+(i+1) by omega]at this
  simpa[stageAt]using this
def GdK(sk:Nat->Bool)(V:Nat->World->Value->Prop):Nat->List Oper->Prop
 | _,[]=>True
 | i,o::r=>(match o.guard with | none=>sk i=false | some (j,b)=>∀w v,V j w v->v=.bool (if sk i then !b else b)∨(sk i=true/\v=undef))/\GdK sk V (i+1) r
theorem GdK.at {a:Nat->Bool} {V:Nat->World->Value->Prop}:∀(r:List Oper) (k i:Nat) (o:Oper),GdK a V k r->r[i]? =some o->match o.guard with | none=>a (k+i)=false | some (j,b)=>∀w v,V j w v->v=.bool (if a (k+i)then !b else b)∨(a (k+i)=true/\v=undef)
 | [],_,_,_,_,h=>by simp at h
 | o::r,k,0,o',h,h'=>by simp at h';subst h';exact h.1
 | o::r,k,i+1,o',h,h'=>by
  have:=GdK.at r (k+1) i o' h.2 (by simpa using h')
  rwa [show k+1+i=k+(i+1) by omega]at this
theorem wpAny_of_skip(sk:Nat->Bool) {l:List Oper} {st:List (Option Nat)} {S:List Nat} {V:Nat->Nat->World->Value->Prop} {G:Nat->World->Prop} {le:World->World->Prop} {Z:Act} {Q:Exit->Act->World->Prop}
  (ao:∀i k w w' v,le w w'->V i k w v->V i k w' v) (hB:localB l Z.tmps.size=true) (hS:seqB l S=true) (hT:stageB l.length st S=true) (hO:OblK P sk l V G le Z Q 0 st l) (hg:∀k,GdK sk (λj=>V j k) 0 l) (hU:∀i,sk i=true->stageAt st i=none/\∀k w,V i k w undef)
  (hQ:∀a w,G S.length w->a.defers=Z.defers->a.tmps.size=Z.tmps.size->OutL l Z a->(∀i d,dstAt l i=some d->V i S.length w (a.eval (.tmp d)))->Q .normal a w):
  ∀(fuel:Nat) (c:Array Bool) (a:Act) (w:World),(List.range l.length).countP (λi=> !c.getD i true)<=fuel->YInv l S V G Z c a w->wpAny P .any l.toArray Q fuel c a w:=by
 have done:∀(c:Array Bool) (a:Act) (w:World),YInv l S V G Z c a w->Region.ready .any l.toArray c=[]->Q .normal a w:=by
  intro c a w inv hr;have all:∀n i,i<n->i<l.length->c.getD i true=true:=by
   intro n
   induction n with
   | zero=>intro i hi;omega
   | succ n ih=>
    intro i az m
    cases hl:c.getD i true with
    | true=>rfl
    | false=>
     have aa:i∈Region.ready .any l.toArray c:=by
      refine mem_ready.2 ⟨hl,l[i],by simp[m],λe L F=>?_⟩
      have aA:=(localB_spec hB (List.getElem?_eq_getElem m)).1 e (by simpa using L) F
      have:=ih e.on (by omega) (by omega)
      have I:e.on<c.size:=by rw[inv.lsize];omega
      simp[I]at this ⊢;exact this
     rw[hr]at aa;cases aa
  have ab:∀i,i<l.length->c.getD i false=true:=λi m=>by
   have U:=all (i+1) i (by omega) m
   have I:i<c.size:=by rw[inv.lsize];exact m
   simp[I]at U ⊢;exact U
  obtain⟨k,O,hk,J,p⟩:=inv.stage;have ae:k=S.length:=by
   rcases Nat.lt_or_ge k S.length with h | h
   ·have U:=(J k S[k] (List.getElem?_eq_getElem h));have h2:=List.all_eq_true.1 (Bool.and_eq_true_iff.1 hS).1 S[k] (List.getElem_mem h);have:=U.1 (ab _ (by simpa using h2))
    omega
   omega
  subst ae;refine hQ a w O inv.defers inv.size (out_of_late inv.late) λi d hd=>?_;have m:i<l.length:=by
   rcases Nat.lt_or_ge i l.length with h | h
   ·exact h
   simp[dstAt,List.getElem?_eq_none h]at hd
  exact p i d hd (ab i m)
 intro fuel
 induction fuel with
 | zero=>
  intro c a w hc inv;have hr:Region.ready .any l.toArray c=[]:=by
   rw[List.eq_nil_iff_forall_not_mem];intro i hi;have K:=(mem_ready.1 hi).1;have m:i<l.length:=by
    obtain⟨_,o,ho,_⟩:=mem_ready.1 hi;have:=(Array.getElem?_eq_some_iff.1 ho).1;simpa using this
   have:0<(List.range l.length).countP (λi=> !c.getD i true):=List.countP_pos_iff.2 ⟨i,List.mem_range.2 m,by rw[K];rfl⟩
   omega
  exact⟨hr,done c a w inv hr⟩
 | succ fuel ih=>
  intro c a w hc inv;refine⟨λhr=>done c a w inv hr,λi hi=>?_⟩;obtain⟨K,o,ho,r⟩:=mem_ready.1 hi;have x:l[i]? =some o:=by simpa using ho
  have m:i<l.length:=(List.getElem?_eq_some_iff.1 x).1;have D:=OblK.at l st 0 i o hO x;rw[Nat.zero_add]at D;have ac:c.getD i false=false:=by
   have I:i<c.size:=by rw[inv.lsize];exact m
   simp[I]at K ⊢;exact K
  have XR:OutAt l Z a i:=λs I=>inv.late s λj q=>by
   cases hq:c.getD j false with
   | false=>rfl
   | true=>
    have ap:j<l.length:=by
     rcases Nat.lt_or_ge j l.length with h | h
     ·exact h
     simp[dstAt,List.getElem?_eq_none h]at q
    have U:=List.all_eq_true.1 I j (List.mem_range.2 ap);simp only[q,bne_self_eq_false,Bool.false_or]at U;rw[needs_listed inv.closed _ _ _ U hq]at ac;cases ac
  obtain⟨k,O,ai,J,p⟩:=inv.stage;have XU:PreL l (λj=>V j k) a w o.after.toList:=pre_of p _ λe L F=>r e (by simpa using L) F
  have y:(List.range l.length).countP (λj=> !(c.setIfInBounds i true).getD j true)<=fuel:=by
   have:(List.range l.length).countP (λj=> !(c.setIfInBounds i true).getD j true)<(List.range l.length).countP (λj=> !c.getD j true):=by
    refine countP_lt _ i (List.mem_range.2 m) ?_ ?_ ?_
    ·intro j _ q;by_cases e:i=j
     ·subst e;have I:i<c.size:=by rw[inv.lsize];exact m
      simp[I]at q
     rw[getD_set_ne true e]at q;exact q
    ·have I:i<c.size:=by rw[inv.lsize];exact m
     simp[I]
    rw[K];rfl
   omega
  have z:Region.wanted o (yielded l.toArray a.tmps)=!(sk i):=by
   unfold Region.wanted
   cases hgd:o.guard with
   | none=>
    have M:=GdK.at l 0 i o (hg k) x;rw[hgd,Nat.zero_add]at M;simp only at M;rw[M];rfl
   | some jb=>
    obtain⟨j,b⟩:=jb;obtain⟨⟨e,L,F,rfl⟩,ar⟩:=(localB_spec hB x).2.1 j b hgd;obtain⟨d,hd⟩:=Option.isSome_iff_exists.1 ar;have Y:=r e (by simpa using L) F
    have hv:=p e.on d hd Y;have M:=GdK.at l 0 i o (hg k) x;rw[hgd,Nat.zero_add]at M;have u:=M w _ hv;have aj:e.on<l.length:=by
     rcases Nat.lt_or_ge e.on l.length with h | h
     ·exact h
     simp[dstAt,List.getElem?_eq_none h]at hd
    have au:=((localB_spec hB (List.getElem?_eq_getElem aj)).2.2 d (by simpa[dstAt,aj]using hd)).1
    have af:d<a.tmps.size:=by rw[inv.size];exact au
    have e1:a.eval (.tmp d)=a.tmps[d]:=by simp[Act.eval,af]
    have h4:(l.toArray[e.on]?.bind (·.dst))=some d:=by simpa[dstAt]using hd
    rw[e1]at u;rcases u with u | ⟨av,u⟩
    ·have h3:a.tmps[d]? =some (.bool (if sk i then !b else b)):=by
      rw[Array.getElem?_eq_getElem af,u]
     simp only[yielded,h4,Option.bind_some,h3];cases sk i <;> cases b <;> simp
    ·have h3:a.tmps[d]? =some undef:=by
      rw[Array.getElem?_eq_getElem af,u]
     simp only[yielded,h4,Option.bind_some,h3,av];cases b <;> rfl
  have E:=List.all_eq_true.1 (Bool.and_eq_true_iff.1 hT).1 i (List.mem_range.2 m);have ad:i<c.size:=by rw[inv.lsize];exact m
  unfold wpOp
  cases hsk:sk i with
  | true=>
   rw[hsk]at z;obtain⟨aw,ak⟩:=hU i hsk;rw[aw]at E;simp only[ho,z,Bool.not_true,Bool.false_eq_true,if_false];refine ih _ _ _ y (inv.step rfl hB x (λe L F=>r e (by simpa using L) F) O ai (λs j q=>?_) (ak k w) λj d _ q hl=>p j d q hl)
   have R:i≠j:=by
    rintro rfl;have:S.contains i=true:=by
     rw[List.contains_iff_mem];exact List.mem_of_getElem? q
    simp only[this,Bool.not_true]at E;cases E
   rw[getD_set_ne false R];exact J s j q
  | false=>
  rw[hsk]at z;simp only[ho,z,Bool.not_false,if_true]
  left
  cases I:stageAt st i with
  | none=>
   rw[I]at D E;refine D hsk k a w O XR XU _ λv w' hv hG ax=>ih _ _ _ y (inv.step rfl hB x (λe L F=>r e (by simpa using L) F) hG ai (λs j q=>?_) hv λj d _ q hl=>ao _ _ _ _ _ ax (p j d q hl))
   have R:i≠j:=by
    rintro rfl;have:S.contains i=true:=by
     rw[List.contains_iff_mem];exact List.mem_of_getElem? q
    simp only[this,Bool.not_true]at E;cases E
   rw[getD_set_ne false R];exact J s j q
  | some s=>
   rw[I]at D E;have N:S[s]? =some i:=by simpa using E
   have ay:s<S.length:=(List.getElem?_eq_some_iff.1 N).1;have al:c.getD i false=false:=by
    simp[ad]at K ⊢;exact K
   have aB:¬s<k:=λh=>by
    have:=(J s i N).2 h;rw[al]at this;cases this
   have aC:s<=k:=by
    match s,N with
    | 0,_=>omega
    | s+1,N=>
     have U:=List.all_eq_true.1 (Bool.and_eq_true_iff.1 hS).2 (s+1) (List.mem_range.2 ay);have am:S[s]? =some S[s]:=List.getElem?_eq_getElem (by omega)
     simp only[N,am,x,Bool.and_eq_true]at U;obtain⟨e,L,F⟩:=List.any_eq_true.1 U.2;simp only[Bool.and_eq_true,beq_iff_eq]at F;have Y:=r e (by simpa using L) F.1
     rw[F.2]at Y;have:=(J s S[s] am).1 Y;omega
   have ae:k=s:=by omega
   subst ae;refine D hsk a w O XR XU _ λv w' hv hG ag=>ih _ _ _ y (inv.step rfl hB x (λe L F=>r e (by simpa using L) F) hG (by omega) (λs' j q=>?_) hv λj d R q hl=>ag j _ R (p j d q hl))
   by_cases ah:i=j
   ·subst ah;have an:s'<S.length:=(List.getElem?_eq_some_iff.1 q).1;have h2:=List.all_eq_true.1 (Bool.and_eq_true_iff.1 hT).2 s' (List.mem_range.2 an);simp only[q,I]at h2;have:k=s':=by simpa using h2
    subst this;simp[ad]
   rw[getD_set_ne false ah,J s' j q];refine⟨λh=>by omega,λh=>?_⟩
   have:s'≠k:=by
    rintro rfl;rw[N]at q;injection q with q
    exact ah q
   omega
theorem wp_region_skip_frame(n:Nat->Bool) {id:Nat} {l:List Oper} {b:Act} {w:World} {Q:Exit->Act->World->Prop}(E:P.follows .mixedOrders=true)(q:List (Option Nat))(S:List Nat)(V:Nat->Nat->World->Value->Prop)(G:Nat->World->Prop)(le:World->World->Prop)
  (r:∀i k w w' v,le w w'->V i k w v->V i k w' v) (F:localB l b.tmps.size=true) (I:seqB l S=true) (J:stageB l.length q S=true) (K:G 0 { w with drawn:=w.drawn+1 }) (L:∀k,GdK n (λj=>V j k) 0 l) (M:∀i,n i=true->stageAt q i=none/\∀k w,V i k w undef) (N:OblK P n l V G le b Q 0 q l)
  (O:∀u w,G S.length w->u.length=l.length->(∀i d v,dstAt l i=some d->u[i]? =some v->V i S.length w v)->Q .normal (putsL l u b) w):
  (Code.region id l.toArray true).wp P Q b w:=by
 refine wp_region_any E ?_;refine wpAny_of_skip n r F I J N L M (λa w x R D U c=>?_) l.toArray.size (Array.replicate l.toArray.size false) b { w with drawn:=w.drawn+1 } (Nat.le_trans List.countP_le_length (by simp))
  ⟨⟨0,K,Nat.zero_le _,λs i _=>⟨λh=>(by rw[getD_replicate_false]at h;cases h),λh=>(by omega)⟩,λi d _ m=>(by rw[getD_replicate_false]at m;cases m)⟩,rfl,rfl,by simp,λ_ _=>rfl,λi o _ m=>(by rw[getD_replicate_false]at m;cases m)⟩
 have e:putsL l (valsOf a l) b=a:=act_ext ((putsL_defers _ _ _).trans R.symm) ((putsL_size _ _ _).trans D.symm) (putsL_eval a l b D U);rw[<-e];refine O _ w x (by simp[valsOf]) λi d v hid p=>?_
 have h:=c i d hid;have y:(valsOf a l)[i]? =some (a.eval (.tmp d)):=by
  rw[dstAt]at hid
  cases ho:l[i]? with
  | none=>rw[ho]at hid;cases hid
  | some o=>
   rw[ho]at hid;have z:o.dst=some d:=hid;simp[valsOf,ho,z]
 rw[y]at p;injection p with p
 rw[<-p];exact h
end
open Go
section
variable {P : Program}
def LocXA(P:Program)(l:List Oper)(V:Nat->Nat->World->Value->Prop)(G:Nat->World->Prop)(a0:Act)(Q:Exit->Act->World->Prop)(s i:Nat)(o:Oper):Prop:=
 ∀(a:Act) (w:World),G s w->OutAt l a0 a i->PreL l (λj=>V j s) a w o.after.toList->∀K:Act->World->Prop,(∀v w',V i (s+1) w' v->G (s+1) w'->(∀j d,j≠i->dstAt l j=some d->V j s w (a.eval (.tmp d))->V j (s+1) w' (a.eval (.tmp d)))->K (a.put o.dst v) w')->o.wp P a w K Q
def OblKA(P:Program)(sk:Nat->Bool)(l:List Oper)(V:Nat->Nat->World->Value->Prop)(G:Nat->World->Prop)(le:World->World->Prop)(a0:Act)(Q:Exit->Act->World->Prop):Nat->List (Option Nat)->List Oper->Prop
 | _,_,[]=>True
 | i,[],o::r=>(sk i=false->∀k,LocY P l V G le a0 Q k i o)/\OblKA P sk l V G le a0 Q (i+1) [] r
 | i,none::st,o::r=>(sk i=false->∀k,LocY P l V G le a0 Q k i o)/\OblKA P sk l V G le a0 Q (i+1) st r
 | i,some s::st,o::r=>(sk i=false->LocXA P l V G a0 Q s i o)/\OblKA P sk l V G le a0 Q (i+1) st r
theorem OblKA.at {b:Nat->Bool} {l:List Oper} {V:Nat->Nat->World->Value->Prop} {G:Nat->World->Prop} {le:World->World->Prop} {c:Act} {Q:Exit->Act->World->Prop}:
  ∀(r:List Oper) (a:List (Option Nat)) (k i:Nat) (o:Oper),OblKA P b l V G le c Q k a r->r[i]? =some o->
   match stageAt a i with | none=>b (k+i)=false->∀q,LocY P l V G le c Q q (k+i) o | some s=>b (k+i)=false->LocXA P l V G c Q s (k+i) o
 | [],_,_,_,_,_,h=>by simp at h
 | o::r,[],k,0,o',h,h'=>by simp at h';subst h';exact h.1
 | o::r,none::a,k,0,o',h,h'=>by simp at h';subst h';exact h.1
 | o::r,some s::a,k,0,o',h,h'=>by simp at h';subst h';exact h.1
 | o::r,[],k,i+1,o',h,h'=>by
  have:=OblKA.at r [] (k+1) i o' h.2 (by simpa using h')
  rw[show k+1+i=k+(i+1) by omega]at this
  simpa[stageAt]using this
 | o::r,none::a,k,i+1,o',h,h'=>by
  have:=OblKA.at r a (k+1) i o' h.2 (by simpa using h')
  rw[show k+1+i=k+(i+1) by omega]at this
  simpa[stageAt]using this
 | o::r,some s::a,k,i+1,o',h,h'=>by
  have:=OblKA.at r a (k+1) i o' h.2 (by simpa using h')
  rw[show k+1+i=k+(i+1) by omega]at this
  simpa[stageAt]using this
theorem wpAny_of_skipA(sk:Nat->Bool) {l:List Oper} {st:List (Option Nat)} {S:List Nat} {V:Nat->Nat->World->Value->Prop} {G:Nat->World->Prop} {le:World->World->Prop} {Z:Act} {Q:Exit->Act->World->Prop}
  (ao:∀i k w w' v,le w w'->V i k w v->V i k w' v) (hB:localB l Z.tmps.size=true) (hS:seqB l S=true) (hT:stageB l.length st S=true) (hO:OblKA P sk l V G le Z Q 0 st l) (hg:∀k,GdK sk (λj=>V j k) 0 l) (hU:∀i,sk i=true->stageAt st i=none/\∀k w,V i k w undef)
  (hQ:∀a w,G S.length w->a.defers=Z.defers->a.tmps.size=Z.tmps.size->OutL l Z a->(∀i d,dstAt l i=some d->V i S.length w (a.eval (.tmp d)))->Q .normal a w):
  ∀(fuel:Nat) (c:Array Bool) (a:Act) (w:World),(List.range l.length).countP (λi=> !c.getD i true)<=fuel->YInv l S V G Z c a w->wpAny P .any l.toArray Q fuel c a w:=by
 have done:∀(c:Array Bool) (a:Act) (w:World),YInv l S V G Z c a w->Region.ready .any l.toArray c=[]->Q .normal a w:=by
  intro c a w inv hr;have all:∀n i,i<n->i<l.length->c.getD i true=true:=by
   intro n
   induction n with
   | zero=>intro i hi;omega
   | succ n ih=>
    intro i az m
    cases hl:c.getD i true with
    | true=>rfl
    | false=>
     have aa:i∈Region.ready .any l.toArray c:=by
      refine mem_ready.2 ⟨hl,l[i],by simp[m],λe L F=>?_⟩
      have aA:=(localB_spec hB (List.getElem?_eq_getElem m)).1 e (by simpa using L) F
      have:=ih e.on (by omega) (by omega)
      have I:e.on<c.size:=by rw[inv.lsize];omega
      simp[I]at this ⊢;exact this
     rw[hr]at aa;cases aa
  have ab:∀i,i<l.length->c.getD i false=true:=λi m=>by
   have U:=all (i+1) i (by omega) m
   have I:i<c.size:=by rw[inv.lsize];exact m
   simp[I]at U ⊢;exact U
  obtain⟨k,O,hk,J,p⟩:=inv.stage;have ae:k=S.length:=by
   rcases Nat.lt_or_ge k S.length with h | h
   ·have U:=(J k S[k] (List.getElem?_eq_getElem h));have h2:=List.all_eq_true.1 (Bool.and_eq_true_iff.1 hS).1 S[k] (List.getElem_mem h);have:=U.1 (ab _ (by simpa using h2))
    omega
   omega
  subst ae;refine hQ a w O inv.defers inv.size (out_of_late inv.late) λi d hd=>?_;have m:i<l.length:=by
   rcases Nat.lt_or_ge i l.length with h | h
   ·exact h
   simp[dstAt,List.getElem?_eq_none h]at hd
  exact p i d hd (ab i m)
 intro fuel
 induction fuel with
 | zero=>
  intro c a w hc inv;have hr:Region.ready .any l.toArray c=[]:=by
   rw[List.eq_nil_iff_forall_not_mem];intro i hi;have K:=(mem_ready.1 hi).1;have m:i<l.length:=by
    obtain⟨_,o,ho,_⟩:=mem_ready.1 hi;have:=(Array.getElem?_eq_some_iff.1 ho).1;simpa using this
   have:0<(List.range l.length).countP (λi=> !c.getD i true):=List.countP_pos_iff.2 ⟨i,List.mem_range.2 m,by rw[K];rfl⟩
   omega
  exact⟨hr,done c a w inv hr⟩
 | succ fuel ih=>
  intro c a w hc inv;refine⟨λhr=>done c a w inv hr,λi hi=>?_⟩;obtain⟨K,o,ho,r⟩:=mem_ready.1 hi;have x:l[i]? =some o:=by simpa using ho
  have m:i<l.length:=(List.getElem?_eq_some_iff.1 x).1;have D:=OblKA.at l st 0 i o hO x;rw[Nat.zero_add]at D;have ac:c.getD i false=false:=by
   have I:i<c.size:=by rw[inv.lsize];exact m
   simp[I]at K ⊢;exact K
  have XR:OutAt l Z a i:=λs I=>inv.late s λj q=>by
   cases hq:c.getD j false with
   | false=>rfl
   | true=>
    have ap:j<l.length:=by
     rcases Nat.lt_or_ge j l.length with h | h
     ·exact h
     simp[dstAt,List.getElem?_eq_none h]at q
    have U:=List.all_eq_true.1 I j (List.mem_range.2 ap);simp only[q,bne_self_eq_false,Bool.false_or]at U;rw[needs_listed inv.closed _ _ _ U hq]at ac;cases ac
  obtain⟨k,O,ai,J,p⟩:=inv.stage;have XU:PreL l (λj=>V j k) a w o.after.toList:=pre_of p _ λe L F=>r e (by simpa using L) F
  have y:(List.range l.length).countP (λj=> !(c.setIfInBounds i true).getD j true)<=fuel:=by
   have:(List.range l.length).countP (λj=> !(c.setIfInBounds i true).getD j true)<(List.range l.length).countP (λj=> !c.getD j true):=by
    refine countP_lt _ i (List.mem_range.2 m) ?_ ?_ ?_
    ·intro j _ q;by_cases e:i=j
     ·subst e;have I:i<c.size:=by rw[inv.lsize];exact m
      simp[I]at q
     rw[getD_set_ne true e]at q;exact q
    ·have I:i<c.size:=by rw[inv.lsize];exact m
     simp[I]
    rw[K];rfl
   omega
  have z:Region.wanted o (yielded l.toArray a.tmps)=!(sk i):=by
   unfold Region.wanted
   cases hgd:o.guard with
   | none=>
    have M:=GdK.at l 0 i o (hg k) x;rw[hgd,Nat.zero_add]at M;simp only at M;rw[M];rfl
   | some jb=>
    obtain⟨j,b⟩:=jb;obtain⟨⟨e,L,F,rfl⟩,ar⟩:=(localB_spec hB x).2.1 j b hgd;obtain⟨d,hd⟩:=Option.isSome_iff_exists.1 ar;have Y:=r e (by simpa using L) F
    have hv:=p e.on d hd Y;have M:=GdK.at l 0 i o (hg k) x;rw[hgd,Nat.zero_add]at M;have u:=M w _ hv;have aj:e.on<l.length:=by
     rcases Nat.lt_or_ge e.on l.length with h | h
     ·exact h
     simp[dstAt,List.getElem?_eq_none h]at hd
    have au:=((localB_spec hB (List.getElem?_eq_getElem aj)).2.2 d (by simpa[dstAt,aj]using hd)).1
    have af:d<a.tmps.size:=by rw[inv.size];exact au
    have e1:a.eval (.tmp d)=a.tmps[d]:=by simp[Act.eval,af]
    have h4:(l.toArray[e.on]?.bind (·.dst))=some d:=by simpa[dstAt]using hd
    rw[e1]at u;rcases u with u | ⟨av,u⟩
    ·have h3:a.tmps[d]? =some (.bool (if sk i then !b else b)):=by
      rw[Array.getElem?_eq_getElem af,u]
     simp only[yielded,h4,Option.bind_some,h3];cases sk i <;> cases b <;> simp
    ·have h3:a.tmps[d]? =some undef:=by
      rw[Array.getElem?_eq_getElem af,u]
     simp only[yielded,h4,Option.bind_some,h3,av];cases b <;> rfl
  have E:=List.all_eq_true.1 (Bool.and_eq_true_iff.1 hT).1 i (List.mem_range.2 m);have ad:i<c.size:=by rw[inv.lsize];exact m
  unfold wpOp
  cases hsk:sk i with
  | true=>
   rw[hsk]at z;obtain⟨aw,ak⟩:=hU i hsk;rw[aw]at E;simp only[ho,z,Bool.not_true,Bool.false_eq_true,if_false];refine ih _ _ _ y (inv.step rfl hB x (λe L F=>r e (by simpa using L) F) O ai (λs j q=>?_) (ak k w) λj d _ q hl=>p j d q hl)
   have R:i≠j:=by
    rintro rfl;have:S.contains i=true:=by
     rw[List.contains_iff_mem];exact List.mem_of_getElem? q
    simp only[this,Bool.not_true]at E;cases E
   rw[getD_set_ne false R];exact J s j q
  | false=>
  rw[hsk]at z;simp only[ho,z,Bool.not_false,if_true]
  left
  cases I:stageAt st i with
  | none=>
   rw[I]at D E;refine D hsk k a w O XR XU _ λv w' hv hG ax=>ih _ _ _ y (inv.step rfl hB x (λe L F=>r e (by simpa using L) F) hG ai (λs j q=>?_) hv λj d _ q hl=>ao _ _ _ _ _ ax (p j d q hl))
   have R:i≠j:=by
    rintro rfl;have:S.contains i=true:=by
     rw[List.contains_iff_mem];exact List.mem_of_getElem? q
    simp only[this,Bool.not_true]at E;cases E
   rw[getD_set_ne false R];exact J s j q
  | some s=>
   rw[I]at D E;have N:S[s]? =some i:=by simpa using E
   have ay:s<S.length:=(List.getElem?_eq_some_iff.1 N).1;have al:c.getD i false=false:=by
    simp[ad]at K ⊢;exact K
   have aB:¬s<k:=λh=>by
    have:=(J s i N).2 h;rw[al]at this;cases this
   have aC:s<=k:=by
    match s,N with
    | 0,_=>omega
    | s+1,N=>
     have U:=List.all_eq_true.1 (Bool.and_eq_true_iff.1 hS).2 (s+1) (List.mem_range.2 ay);have am:S[s]? =some S[s]:=List.getElem?_eq_getElem (by omega)
     simp only[N,am,x,Bool.and_eq_true]at U;obtain⟨e,L,F⟩:=List.any_eq_true.1 U.2;simp only[Bool.and_eq_true,beq_iff_eq]at F;have Y:=r e (by simpa using L) F.1
     rw[F.2]at Y;have:=(J s S[s] am).1 Y;omega
   have ae:k=s:=by omega
   subst ae;refine D hsk a w O XR XU _ λv w' hv hG ag=>ih _ _ _ y (inv.step rfl hB x (λe L F=>r e (by simpa using L) F) hG (by omega) (λs' j q=>?_) hv λj d R q hl=>ag j d R q (p j d q hl))
   by_cases ah:i=j
   ·subst ah;have an:s'<S.length:=(List.getElem?_eq_some_iff.1 q).1;have h2:=List.all_eq_true.1 (Bool.and_eq_true_iff.1 hT).2 s' (List.mem_range.2 an);simp only[q,I]at h2;have:k=s':=by simpa using h2
    subst this;simp[ad]
   rw[getD_set_ne false ah,J s' j q];refine⟨λh=>by omega,λh=>?_⟩
   have:s'≠k:=by
    rintro rfl;rw[N]at q;injection q with q
    exact ah q
   omega
theorem wp_region_skipA(n:Nat->Bool) {id:Nat} {l:List Oper} {b:Act} {w:World} {Q:Exit->Act->World->Prop}(E:P.follows .mixedOrders=true)(q:List (Option Nat))(S:List Nat)(V:Nat->Nat->World->Value->Prop)(G:Nat->World->Prop)(le:World->World->Prop)
  (r:∀i k w w' v,le w w'->V i k w v->V i k w' v) (F:localB l b.tmps.size=true) (I:seqB l S=true) (J:stageB l.length q S=true) (K:G 0 { w with drawn:=w.drawn+1 }) (L:∀k,GdK n (λj=>V j k) 0 l) (M:∀i,n i=true->stageAt q i=none/\∀k w,V i k w undef) (N:OblKA P n l V G le b Q 0 q l)
  (O:∀u w,G S.length w->u.length=l.length->(∀i d v,dstAt l i=some d->u[i]? =some v->V i S.length w v)->Q .normal (putsL l u b) w):
  (Code.region id l.toArray true).wp P Q b w:=by
 refine wp_region_any E ?_;refine wpAny_of_skipA n r F I J N L M (λa w x R D U c=>?_) l.toArray.size (Array.replicate l.toArray.size false) b { w with drawn:=w.drawn+1 } (Nat.le_trans List.countP_le_length (by simp))
  ⟨⟨0,K,Nat.zero_le _,λs i _=>⟨λh=>(by rw[getD_replicate_false]at h;cases h),λh=>(by omega)⟩,λi d _ m=>(by rw[getD_replicate_false]at m;cases m)⟩,rfl,rfl,by simp,λ_ _=>rfl,λi o _ m=>(by rw[getD_replicate_false]at m;cases m)⟩
 have e:putsL l (valsOf a l) b=a:=act_ext ((putsL_defers _ _ _).trans R.symm) ((putsL_size _ _ _).trans D.symm) (putsL_eval a l b D U);rw[<-e];refine O _ w x (by simp[valsOf]) λi d v hid p=>?_
 have h:=c i d hid;have y:(valsOf a l)[i]? =some (a.eval (.tmp d)):=by
  rw[dstAt]at hid
  cases ho:l[i]? with
  | none=>rw[ho]at hid;cases hid
  | some o=>
   rw[ho]at hid;have z:o.dst=some d:=hid;simp[valsOf,ho,z]
 rw[y]at p;injection p with p
 rw[<-p];exact h
end
end Go.Proofs.YtgfmbkoieacgoaaGreatDoor
