/-
  1.
-/
import Derived.StillTail
import Derived.ScopeJumps
namespace Go.Proofs.YtjeeghafachebaaGreat
open Go
section
variable {P : Program}
def dQ(l:List Oper)(i:Nat):Option Tmp:=(l[i]?).bind (·.dst)
def DK(l:List Oper)(V:Nat->World->Value->Prop)(a:Act)(w:World):List Edge->Prop
 | []=>True
 | e::r=>(if Region.binds .any e then (match dQ l e.on with | some d=>V e.on w (a.eval (.tmp d)) | none=>True)else True)/\DK l V a w r
def Lg(l:List Oper)(a0 a:Act):Prop:=∀s,(l.all λo=>o.dst !=some s)=true->a.eval (.tmp s)=a0.eval (.tmp s)
def Gd(l:List Oper)(V:Nat->World->Value->Prop):List Oper->Prop
 | []=>True
 | o::r=>(match o.guard with | none=>True | some (j,b)=>∀w v,V j w v->v=.bool b)/\Gd l V r
theorem Gd.at {l:List Oper} {V:Nat->World->Value->Prop}:∀(r:List Oper) (i:Nat) (o:Oper),Gd l V r->r[i]? =some o->match o.guard with | none=>True | some (j,b)=>∀w v,V j w v->v=.bool b
 | [],_,_,_,h=>by simp at h
 | o::r,0,o',h,h'=>by simp at h';subst h';exact h.1
 | o::r,i+1,o',h,h'=>Gd.at r i o' h.2 (by simpa using h')
def qU(l:List Oper)(n:Nat):Bool:=
 (List.range l.length).all λi=>match l[i]? with
  | none=>true
  | some o=>
   (o.after.toList.all λe=> !Region.binds .any e || decide (e.on<i)) &&
   (match o.guard with | none=>true | some (j,_)=>(o.after.toList.any λe=>Region.binds .any e && e.on==j) && (dQ l j).isSome) &&
   (match o.dst with | none=>true | some d=>decide (d < n) && (List.range l.length).all λj=>j==i || dQ l j !=some d)
theorem gX {l:List Oper} {n:Nat}(h:qU l n=true) {i:Nat} {o:Oper}(hi:l[i]? =some o):
  (∀e∈o.after.toList,Region.binds .any e=true->e.on<i)/\
  (∀j b,o.guard=some (j,b)->(∃e∈o.after.toList,Region.binds .any e=true/\e.on=j)/\(dQ l j).isSome=true)/\
  (∀d,o.dst=some d->d<n/\∀j,j≠i->dQ l j≠some d):=by
 have hil:i<l.length:=(List.getElem?_eq_some_iff.1 hi).1;have h1:=List.all_eq_true.1 h i (List.mem_range.2 hil);simp only[hi,Bool.and_eq_true]at h1;obtain⟨⟨h1,h2⟩,h3⟩:=h1;refine⟨λe he hb=>?_,λj b hg=>?_,λd hd=>?_⟩
 ·have:=List.all_eq_true.1 h1 e he;simp only[hb,Bool.not_true,Bool.false_or,decide_eq_true_eq]at this;exact this
 ·rw[hg]at h2;simp only[Bool.and_eq_true]at h2;obtain⟨e,he,hb⟩:=List.any_eq_true.1 h2.1;simp only[Bool.and_eq_true,beq_iff_eq]at hb;exact⟨⟨e,he,hb.1,hb.2⟩,h2.2⟩
 rw[hd]at h3;simp only[Bool.and_eq_true,decide_eq_true_eq]at h3;refine⟨h3.1,λj hj hjd=>?_⟩;have hjl:j<l.length:=by
  rcases Nat.lt_or_ge j l.length with h | h
  ·exact h
  simp[dQ,List.getElem?_eq_none h]at hjd
 have:=List.all_eq_true.1 h3.2 j (List.mem_range.2 hjl);simp[hjd,hj]at this
theorem Fz {l:List Oper} {V:Nat->World->Value->Prop} {a:Act} {w:World} {listed:Array Bool}(hV:∀i d,dQ l i=some d->listed.getD i false=true->V i w (a.eval (.tmp d))):
  ∀(es:List Edge),(∀e∈es,Region.binds .any e=true->listed.getD e.on false=true)->DK l V a w es
 | [],_=>trivial
 | e::r,h=>by
  refine⟨?_,Fz hV r λe' he'=>h e' (by simp[he'])⟩
  split
  ·rename_i hb
   split
   ·rename_i d hd;exact hV _ _ hd (h e (by simp) hb)
   trivial
  trivial
theorem eval_put(a:Act)(d:Tmp)(v:Value)(s:Tmp):(a.put (some d) v).eval (.tmp s)=if s=d/\d<a.tmps.size then v else a.eval (.tmp s):=by
 simp only[Act.eval,Act.put];by_cases h:s=d
 ·subst h;by_cases h2:s<a.tmps.size
  ·simp[h2]
  simp[h2]
 have h':¬d=s:=λe=>h e.symm;simp[h,h']
theorem tH {p q:Nat->Bool}:∀(l:List Nat) (x:Nat),x∈l->(∀y∈l,p y=true->q y=true)->p x=false->q x=true->l.countP p<l.countP q
 | [],_,h,_,_,_=>by cases h
 | y::l,x,h,hi,hp,hq=>by
  have hm:l.countP p<=l.countP q:=List.countP_mono_left λz hz=>hi z (by simp[hz])
  rw[List.countP_cons,List.countP_cons];rcases List.mem_cons.1 h with e | h'
  ·subst e;rw[hp,hq];simp;omega
  have:=tH l x h' (λz hz=>hi z (by simp[hz])) hp hq
  have hy:=hi y (by simp)
  cases h1:p y with
  | false=>
   simp only[Bool.false_eq_true,if_false]
   split <;> omega
  | true=>rw[hy h1];simp;omega
end
section
variable {P : Program}
def dG:List Oper->List Value->Act->Act
 | [],_,a=>a
 | o::r,vs,a=>dG r vs.tail (a.put o.dst (vs.headD undef))
def kV(A:Act)(l:List Oper):List Value:=l.map λo=>match o.dst with | some d=>A.eval (.tmp d) | none=>undef
theorem GZ(a:Act)(d:Option Tmp)(v:Value):(a.put d v).tmps.size=a.tmps.size:=by
 cases d <;> simp[Act.put]
theorem put_defers(a:Act)(d:Option Tmp)(v:Value):(a.put d v).defers=a.defers:=by
 cases d <;> rfl
theorem qY:∀(l:List Oper) (vs:List Value) (a:Act),(dG l vs a).tmps.size=a.tmps.size
 | [],_,_=>rfl
 | o::r,vs,a=>by rw[dG,qY r,GZ]
theorem mR:∀(l:List Oper) (vs:List Value) (a:Act),(dG l vs a).defers=a.defers
 | [],_,_=>rfl
 | o::r,vs,a=>by rw[dG,mR r,put_defers]
theorem qX(A:Act):∀(l:List Oper) (a:Act),A.tmps.size=a.tmps.size->(∀s,(l.all λo=>o.dst !=some s)=true->A.eval (.tmp s)=a.eval (.tmp s))->
  ∀s,(dG l (kV A l) a).eval (.tmp s)=A.eval (.tmp s)
 | [],a,_,h,s=>(h s rfl).symm
 | o::r,a,hs,h,s=>by
  rw[dG];refine qX A r _ (by rw[GZ];exact hs) (λs hr=>?_) s
  show A.eval (.tmp s)=(a.put o.dst ((kV A (o::r)).headD undef)).eval (.tmp s);by_cases hd:o.dst=some s
  ·have hv:((kV A (o::r)).headD undef)=A.eval (.tmp s):=by simp[kV,hd]
   rw[hv,hd,eval_put]
   split
   ·rfl
   rename_i hn;have h1:¬s<a.tmps.size:=λh=>hn ⟨rfl,h⟩;have h2:¬s<A.tmps.size:=λh=>h1 (hs ▸ h);simp[Act.eval,h1,h2]
  rw[h s (by simp only[List.all_cons,Bool.and_eq_true];exact⟨by simpa using hd,hr⟩)]
  cases hod:o.dst with
  | none=>rfl
  | some d=>
   rw[eval_put,if_neg];rintro⟨rfl,_⟩;exact hd hod
theorem DU {a b:Act}(hd:a.defers=b.defers)(hs:a.tmps.size=b.tmps.size)(h:∀s,a.eval (.tmp s)=b.eval (.tmp s)):a=b:=by
 obtain⟨t,d⟩:=a;obtain⟨t',d'⟩:=b;obtain rfl:d=d':=hd;have:t=t':=by
  apply Array.ext hs;intro i h1 h2;have:=h i;simpa[Act.eval,h1,h2]using this
 rw[this]
end
section
variable {P : Program}
def Nj(P:Program)(l:List Oper)(V:Nat->World->Value->Prop)(Ga Gb:World->Prop)(le:World->World->Prop)(a0:Act)(Q:Exit->Act->World->Prop)(i:Nat)(o:Oper):Prop:=
 ∀(a:Act) (w:World),Ga w->Lg l a0 a->DK l V a w o.after.toList->∀K:Act->World->Prop,(∀v w',V i w' v->Gb w'->le w w'->K (a.put o.dst v) w')->o.wp P a w K Q
def zC(P:Program)(l:List Oper)(V:Nat->World->Value->Prop)(G:Nat->World->Prop)(le:World->World->Prop)(a0:Act)(Q:Exit->Act->World->Prop):Nat->List (Option Nat)->List Oper->Prop
 | _,_,[]=>True
 | i,[],o::r=>(∀k,Nj P l V (G k) (G k) le a0 Q i o)/\zC P l V G le a0 Q (i+1) [] r
 | i,none::st,o::r=>(∀k,Nj P l V (G k) (G k) le a0 Q i o)/\zC P l V G le a0 Q (i+1) st r
 | i,some s::st,o::r=>Nj P l V (G s) (G (s+1)) le a0 Q i o/\zC P l V G le a0 Q (i+1) st r
def gV(st:List (Option Nat))(i:Nat):Option Nat:=(st[i]?).join
theorem zC.at {l:List Oper} {V:Nat->World->Value->Prop} {G:Nat->World->Prop} {le:World->World->Prop} {a0:Act} {Q:Exit->Act->World->Prop}:
  ∀(r:List Oper) (st:List (Option Nat)) (k i:Nat) (o:Oper),zC P l V G le a0 Q k st r->r[i]? =some o->
   match gV st i with | none=>∀q,Nj P l V (G q) (G q) le a0 Q (k+i) o | some s=>Nj P l V (G s) (G (s+1)) le a0 Q (k+i) o
 | [],_,_,_,_,_,h=>by simp at h
 | o::r,[],k,0,o',h,h'=>by simp at h';subst h';exact h.1
 | o::r,none::st,k,0,o',h,h'=>by simp at h';subst h';exact h.1
 | o::r,some s::st,k,0,o',h,h'=>by simp at h';subst h';exact h.1
 | o::r,[],k,i+1,o',h,h'=>by
  have:=zC.at r [] (k+1) i o' h.2 (by simpa using h')
  rw[show k+1+i=k+(i+1) by omega]at this
  simpa[gV]using this
 | o::r,none::st,k,i+1,o',h,h'=>by
  have:=zC.at r st (k+1) i o' h.2 (by simpa using h')
  rw[show k+1+i=k+(i+1) by omega]at this
  simpa[gV]using this
 | o::r,some s::st,k,i+1,o',h,h'=>by
  have:=zC.at r st (k+1) i o' h.2 (by simpa using h')
  rw[show k+1+i=k+(i+1) by omega]at this
  simpa[gV]using this
def seqB(l:List Oper)(S:List Nat):Bool:=
 S.all (λi=>decide (i<l.length)) && (List.range S.length).all λs=>match s with
  | 0=>true
  | s+1=>match S[s+1]?,S[s]? with
   | some i,some j=>decide (j≠i) && (match l[i]? with | some o=>o.after.toList.any λe=>Region.binds .any e && e.on==j | none=>false)
   | _,_=>false
def xY(n:Nat)(st:List (Option Nat))(S:List Nat):Bool:=
 ((List.range n).all λi=>match gV st i with | none=> !S.contains i | some s=>S[s]? ==some i) && (List.range S.length).all λs=>match S[s]? with | some i=>gV st i==some s | none=>false
structure Nw(l:List Oper)(S:List Nat)(V:Nat->World->Value->Prop)(G:Nat->World->Prop)(a0:Act)(listed:Array Bool)(a:Act)(w:World):Prop where
 stage:∃k,G k w/\k<=S.length/\∀s i,S[s]? =some i->(listed.getD i false=true↔s<k)
 defers:a.defers=a0.defers
 size:a.tmps.size=a0.tmps.size
 lsize:listed.size=l.length
 out:Lg l a0 a
 left:∀i d,dQ l i=some d->listed.getD i false=true->V i w (a.eval (.tmp d))
theorem Co {listed:Array Bool} {i:Nat}(h:i<listed.size):(listed.setIfInBounds i true).getD i false=true:=by simp[h]
theorem Nw.step {l:List Oper} {S:List Nat} {V:Nat->World->Value->Prop} {G:Nat->World->Prop} {le:World->World->Prop} {a0 a:Act} {w w':World} {listed:Array Bool}(hst:∀i w w' v,le w w'->V i w v->V i w' v)
  (h:Nw l S V G a0 listed a w) {n:Nat} (hn:n=a0.tmps.size) (hB:qU l n=true) {i:Nat} {o:Oper} (hi:l[i]? =some o) {v:Value} (hv:V i w' v) (hle:le w w')
  (hG:∃k,G k w'/\k<=S.length/\∀s j,S[s]? =some j->((listed.setIfInBounds i true).getD j false=true↔s<k)):
  Nw l S V G a0 (listed.setIfInBounds i true) (a.put o.dst v) w':=by
 obtain⟨_,_,h3⟩:=gX hB hi;have hil:i<l.length:=(List.getElem?_eq_some_iff.1 hi).1;have hdi:dQ l i=o.dst:=by simp[dQ,hi]
 cases hd:o.dst with
 | none=>
  refine⟨hG,h.defers,h.size,by simp[h.lsize],h.out,λj d hj hl=>?_⟩
  by_cases e:i=j
  ·subst e;rw[hdi,hd]at hj;cases hj
  rw[getD_set_ne false e]at hl;exact hst _ _ _ _ hle (h.left j d hj hl)
 | some d=>
  obtain⟨hdn,hu⟩:=h3 d hd;refine⟨hG,h.defers,by simp[Act.put,h.size],by simp[h.lsize],λs hs=>?_,λj d' hj hl=>?_⟩
  ·rw[eval_put,if_neg]
   ·exact h.out s hs
   rintro⟨rfl,_⟩;have:=List.all_eq_true.1 hs o (List.mem_of_getElem? hi);simp[hd]at this
  rw[eval_put];by_cases e:i=j
  ·subst e;rw[hdi,hd]at hj;cases hj
   rw[if_pos ⟨rfl,by rw[h.size,<-hn];exact hdn⟩]
   exact hv
  rw[if_neg]
  ·rw[getD_set_ne false e]at hl;exact hst _ _ _ _ hle (h.left j d' hj hl)
  rintro⟨rfl,_⟩;exact hu j (λe'=>e e'.symm) hj
theorem wpAny_of_seq {l:List Oper} {st:List (Option Nat)} {S:List Nat} {V:Nat->World->Value->Prop} {G:Nat->World->Prop} {le:World->World->Prop} {a0:Act} {Q:Exit->Act->World->Prop}
  (hst:∀i w w' v,le w w'->V i w v->V i w' v) (hB:qU l a0.tmps.size=true) (hS:seqB l S=true) (hT:xY l.length st S=true) (hO:zC P l V G le a0 Q 0 st l) (hg:Gd l V l)
  (hQ:∀a w,G S.length w->a.defers=a0.defers->a.tmps.size=a0.tmps.size->Lg l a0 a->(∀i d,dQ l i=some d->V i w (a.eval (.tmp d)))->Q .normal a w):
  ∀(fuel:Nat) (listed:Array Bool) (a:Act) (w:World),(List.range l.length).countP (λi=> !listed.getD i true)<=fuel->Nw l S V G a0 listed a w->wpAny P .any l.toArray Q fuel listed a w:=by
 have done:∀(listed:Array Bool) (a:Act) (w:World),Nw l S V G a0 listed a w->Region.ready .any l.toArray listed=[]->Q .normal a w:=by
  intro listed a w inv hr;have all:∀n i,i<n->i<l.length->listed.getD i true=true:=by
   intro n
   induction n with
   | zero=>intro i hi;omega
   | succ n ih=>
    intro i hin hil
    cases hl:listed.getD i true with
    | true=>rfl
    | false=>
     have hmem:i∈Region.ready .any l.toArray listed:=by
      refine mem_ready.2 ⟨hl,l[i],by simp[hil],λe he hb=>?_⟩
      have hlt:=(gX hB (List.getElem?_eq_getElem hil)).1 e (by simpa using he) hb
      have:=ih e.on (by omega) (by omega)
      have hs:e.on<listed.size:=by rw[inv.lsize];omega
      simp[hs]at this ⊢;exact this
     rw[hr]at hmem;cases hmem
  have Wd:∀i,i<l.length->listed.getD i false=true:=λi hil=>by
   have h1:=all (i+1) i (by omega) hil
   have hs:i<listed.size:=by rw[inv.lsize];exact hil
   simp[hs]at h1 ⊢;exact h1
  obtain⟨k,Wp,hk,hks⟩:=inv.stage;have hke:k=S.length:=by
   rcases Nat.lt_or_ge k S.length with h | h
   ·have h1:=(hks k S[k] (List.getElem?_eq_getElem h));have h2:=List.all_eq_true.1 (Bool.and_eq_true_iff.1 hS).1 S[k] (List.getElem_mem h);have:=h1.1 (Wd _ (by simpa using h2))
    omega
   omega
  subst hke;refine hQ a w Wp inv.defers inv.size inv.out λi d hd=>?_;have hil:i<l.length:=by
   rcases Nat.lt_or_ge i l.length with h | h
   ·exact h
   simp[dQ,List.getElem?_eq_none h]at hd
  exact inv.left i d hd (Wd i hil)
 intro fuel
 induction fuel with
 | zero=>
  intro listed a w hc inv;have hr:Region.ready .any l.toArray listed=[]:=by
   rw[List.eq_nil_iff_forall_not_mem];intro i hi;have hun:=(mem_ready.1 hi).1;have hil:i<l.length:=by
    obtain⟨_,o,ho,_⟩:=mem_ready.1 hi;have:=(Array.getElem?_eq_some_iff.1 ho).1;simpa using this
   have:0<(List.range l.length).countP (λi=> !listed.getD i true):=List.countP_pos_iff.2 ⟨i,List.mem_range.2 hil,by rw[hun];rfl⟩
   omega
  exact⟨hr,done listed a w inv hr⟩
 | succ fuel ih=>
  intro listed a w hc inv;refine⟨λhr=>done listed a w inv hr,λi hi=>?_⟩;obtain⟨hun,o,ho,hall⟩:=mem_ready.1 hi;have hlo:l[i]? =some o:=by simpa using ho
  have hil:i<l.length:=(List.getElem?_eq_some_iff.1 hlo).1;have hloc:=zC.at l st 0 i o hO hlo;rw[Nat.zero_add]at hloc;have Sj:DK l V a w o.after.toList:=Fz inv.left _ λe he hb=>hall e (by simpa using he) hb
  have hcount:(List.range l.length).countP (λj=> !(listed.setIfInBounds i true).getD j true)<=fuel:=by
   have:(List.range l.length).countP (λj=> !(listed.setIfInBounds i true).getD j true)<(List.range l.length).countP (λj=> !listed.getD j true):=by
    refine tH _ i (List.mem_range.2 hil) ?_ ?_ ?_
    ·intro j _ hj;by_cases e:i=j
     ·subst e;have hs:i<listed.size:=by rw[inv.lsize];exact hil
      simp[hs]at hj
     rw[getD_set_ne true e]at hj;exact hj
    ·have hs:i<listed.size:=by rw[inv.lsize];exact hil
     simp[hs]
    rw[hun];rfl
   omega
  have hwant:Region.wanted o (yielded l.toArray a.tmps)=true:=by
   unfold Region.wanted
   cases hgd:o.guard with
   | none=>rfl
   | some jb=>
    obtain⟨j,b⟩:=jb;obtain⟨⟨e,he,hb,rfl⟩,hds⟩:=(gX hB hlo).2.1 j b hgd;obtain⟨d,hd⟩:=Option.isSome_iff_exists.1 hds;have hlj:=hall e (by simpa using he) hb
    have hv:=inv.left e.on d hd hlj;have hgv:=Gd.at l i o hg hlo;rw[hgd]at hgv;have hval:=hgv w _ hv;have ZN:e.on<l.length:=by
     rcases Nat.lt_or_ge e.on l.length with h | h
     ·exact h
     simp[dQ,List.getElem?_eq_none h]at hd
    have hdn:=((gX hB (List.getElem?_eq_getElem ZN)).2.2 d (by simpa[dQ,ZN]using hd)).1
    have hdt:d<a.tmps.size:=by rw[inv.size];exact hdn
    have h3:a.tmps[d]? =some (.bool b):=by
     have e1:a.eval (.tmp d)=a.tmps[d]:=by simp[Act.eval,hdt]
     rw[e1]at hval;rw[Array.getElem?_eq_getElem hdt,hval]
    have h4:(l.toArray[e.on]?.bind (·.dst))=some d:=by simpa[dQ]using hd
    simp only[yielded,h4,Option.bind_some,h3];simp
  obtain⟨k,Wp,hkl,hks⟩:=inv.stage;have hT1:=List.all_eq_true.1 (Bool.and_eq_true_iff.1 hT).1 i (List.mem_range.2 hil);have hisz:i<listed.size:=by rw[inv.lsize];exact hil
  unfold wpOp;simp only[ho,hwant,if_true]
  left
  cases hs:gV st i with
  | none=>
   rw[hs]at hloc hT1;refine hloc k a w Wp inv.out Sj _ λv w' hv hG hle=>ih _ _ _ hcount (inv.step hst rfl hB hlo hv hle ⟨k,hG,hkl,λs j hj=>?_⟩);have hne:i≠j:=by
    rintro rfl;have:S.contains i=true:=by
     rw[List.contains_iff_mem];exact List.mem_of_getElem? hj
    simp only[this,Bool.not_true]at hT1;cases hT1
   rw[getD_set_ne false hne];exact hks s j hj
  | some s=>
   rw[hs]at hloc hT1;have VJ:S[s]? =some i:=by simpa using hT1
   have hsl:s<S.length:=(List.getElem?_eq_some_iff.1 VJ).1;have Yy:listed.getD i false=false:=by
    simp[hisz]at hun ⊢;exact hun
   have hk1:¬s<k:=λh=>by
    have:=(hks s i VJ).2 h;rw[Yy]at this;cases this
   have hk2:s<=k:=by
    match s,VJ with
    | 0,_=>omega
    | s+1,VJ=>
     have h1:=List.all_eq_true.1 (Bool.and_eq_true_iff.1 hS).2 (s+1) (List.mem_range.2 hsl);have hSj:S[s]? =some S[s]:=List.getElem?_eq_getElem (by omega)
     simp only[VJ,hSj,hlo,Bool.and_eq_true]at h1;obtain⟨e,he,hb⟩:=List.any_eq_true.1 h1.2;simp only[Bool.and_eq_true,beq_iff_eq]at hb;have hlj:=hall e (by simpa using he) hb.1
     rw[hb.2]at hlj;have:=(hks s S[s] hSj).1 hlj;omega
   have hke:k=s:=by omega
   subst hke;refine hloc a w Wp inv.out Sj _ λv w' hv hG hle=>ih _ _ _ hcount (inv.step hst rfl hB hlo hv hle ⟨k+1,hG,by omega,λs' j hj=>?_⟩)
   by_cases hij:i=j
   ·subst hij;have Yt:s'<S.length:=(List.getElem?_eq_some_iff.1 hj).1;have h2:=List.all_eq_true.1 (Bool.and_eq_true_iff.1 hT).2 s' (List.mem_range.2 Yt);simp only[hj,hs]at h2;have:k=s':=by simpa using h2
    subst this;simp[hisz]
   rw[getD_set_ne false hij,hks s' j hj];refine⟨λh=>by omega,λh=>?_⟩
   have:s'≠k:=by
    rintro rfl;rw[VJ]at hj;injection hj with hj
    exact hij hj
   omega
theorem fZ {id:Nat} {l:List Oper} {a0:Act} {w:World} {Q:Exit->Act->World->Prop}(hm:P.follows .mixedOrders=true)(st:List (Option Nat))(S:List Nat)(V:Nat->World->Value->Prop)(G:Nat->World->Prop)(le:World->World->Prop)
  (hst:∀i w w' v,le w w'->V i w v->V i w' v) (hB:qU l a0.tmps.size=true) (hS:seqB l S=true) (hT:xY l.length st S=true) (hG:G 0 { w with drawn:=w.drawn+1 }) (hg:Gd l V l) (hO:zC P l V G le a0 Q 0 st l)
  (hQ:∀vs w,G S.length w->vs.length=l.length->(∀i d v,dQ l i=some d->vs[i]? =some v->V i w v)->Q .normal (dG l vs a0) w):
  (Code.region id l.toArray true).wp P Q a0 w:=by
 refine wp_region_any hm ?_;refine wpAny_of_seq hst hB hS hT hO hg (λa w uQ hd hs Si hleft=>?_) l.toArray.size (Array.replicate l.toArray.size false) a0 { w with drawn:=w.drawn+1 } (Nat.le_trans List.countP_le_length (by simp))
  ⟨⟨0,hG,Nat.zero_le _,λs i _=>⟨λh=>(by rw[getD_replicate_false]at h;cases h),λh=>(by omega)⟩⟩,rfl,rfl,by simp,λ_ _=>rfl,λi d _ hl=>by rw[getD_replicate_false]at hl;cases hl⟩
 have e:dG l (kV a l) a0=a:=DU ((mR _ _ _).trans hd.symm) ((qY _ _ _).trans hs.symm) (qX a l a0 hs Si);rw[<-e];refine hQ _ w uQ (by simp[kV]) λi d v hid hv=>?_
 have h:=hleft i d hid;have hil:(kV a l)[i]? =some (a.eval (.tmp d)):=by
  rw[dQ]at hid
  cases ho:l[i]? with
  | none=>rw[ho]at hid;cases hid
  | some o=>
   rw[ho]at hid;have hod:o.dst=some d:=hid;simp[kV,ho,hod]
 rw[hil]at hv;injection hv with hv
 rw[<-hv];exact h
end
def Q5(Vs:List Value):Nat->World->Value->Prop:=λi _ v=>v=Vs.getD i undef
section
variable {P : Program}
end
section
variable {P : Program} {a : Act} {w : World} {Q : Exit -> Act -> World -> Prop}
end
end Go.Proofs.YtjeeghafachebaaGreat
