/-
  17.
-/
import Derived.Test.YtjeeghafachebaaGreatU14
namespace Go.Proofs.YtjeeghafachebaaGreat
open Go
section
variable {P : Program}
def Le(P:Program)(l:List Oper)(V:Nat->Nat->World->Value->Prop)(G:Nat->World->Prop)(le:World->World->Prop)(a0:Act)(Q:Exit->Act->World->Prop)(k i:Nat)(o:Oper):Prop:=
 ∀(a:Act) (w:World),G k w->F7 l a0 a i->DK l (λj=>V j k) a w o.after.toList->∀K:Act->World->Prop,(∀v w',V i k w' v->G k w'->le w w'->K (a.put o.dst v) w')->o.wp P a w K Q
def Rf(P:Program)(l:List Oper)(V:Nat->Nat->World->Value->Prop)(G:Nat->World->Prop)(a0:Act)(Q:Exit->Act->World->Prop)(s i:Nat)(o:Oper):Prop:=
 ∀(a:Act) (w:World),G s w->F7 l a0 a i->DK l (λj=>V j s) a w o.after.toList->∀K:Act->World->Prop,(∀v w',V i (s+1) w' v->G (s+1) w'->(∀j u,j≠i->V j s w u->V j (s+1) w' u)->K (a.put o.dst v) w')->o.wp P a w K Q
structure Jg(l:List Oper)(S:List Nat)(V:Nat->Nat->World->Value->Prop)(G:Nat->World->Prop)(a0:Act)(listed:Array Bool)(a:Act)(w:World):Prop where
 stage:∃k,G k w/\k<=S.length/\(∀s i,S[s]? =some i->(listed.getD i false=true↔s<k))/\∀i d,dQ l i=some d->listed.getD i false=true->V i k w (a.eval (.tmp d))
 defers:a.defers=a0.defers
 size:a.tmps.size=a0.tmps.size
 lsize:listed.size=l.length
 late:∀s,(∀j,dQ l j=some s->listed.getD j false=false)->a.eval (.tmp s)=a0.eval (.tmp s)
 closed:∀j o,l[j]? =some o->listed.getD j false=true->∀e∈o.after.toList,Region.binds .any e=true->listed.getD e.on false=true
theorem Jg.step {l:List Oper} {S:List Nat} {V:Nat->Nat->World->Value->Prop} {G:Nat->World->Prop} {a0 a:Act} {w w':World} {listed:Array Bool}
  (h:Jg l S V G a0 listed a w) {n:Nat} (hn:n=a0.tmps.size) (hB:qU l n=true) {i:Nat} {o:Oper} (hi:l[i]? =some o) (hrd:∀e∈o.after.toList,Region.binds .any e=true->listed.getD e.on false=true) {v:Value}
  {k:Nat} (hG:G k w') (hk:k<=S.length) (hks:∀s j,S[s]? =some j->((listed.setIfInBounds i true).getD j false=true↔s<k)) (hv:V i k w' v) (hold:∀j d,j≠i->dQ l j=some d->listed.getD j false=true->V j k w' (a.eval (.tmp d))):
  Jg l S V G a0 (listed.setIfInBounds i true) (a.put o.dst v) w':=by
 obtain⟨_,_,h3⟩:=gX hB hi;have hil:i<l.length:=(List.getElem?_eq_some_iff.1 hi).1;have hdi:dQ l i=o.dst:=by simp[dQ,hi]
 have hsame:(listed.setIfInBounds i true).getD i false=true:=Co (by rw[h.lsize];exact hil)
 have grow:∀j,listed.getD j false=true->(listed.setIfInBounds i true).getD j false=true:=λj hj=>by
  by_cases e:i=j
  ·subst e;exact hsame
  rw[getD_set_ne false e];exact hj
 have back:∀j,(listed.setIfInBounds i true).getD j false=false->listed.getD j false=false:=λj hj=>by
  cases hq:listed.getD j false with
  | false=>rfl
  | true=>rw[grow j hq]at hj;cases hj
 have hclosed:∀j o',l[j]? =some o'->(listed.setIfInBounds i true).getD j false=true->∀e∈o'.after.toList,Region.binds .any e=true->(listed.setIfInBounds i true).getD e.on false=true:=by
  intro j o' ho' hb e he hbi;by_cases ej:i=j
  ·subst ej;rw[hi]at ho';cases ho'
   exact grow _ (hrd e he hbi)
  rw[getD_set_ne false ej]at hb;exact grow _ (h.closed j o' ho' hb e he hbi)
 cases hd:o.dst with
 | none=>
  refine⟨⟨k,hG,hk,hks,λj d hj hl=>?_⟩,h.defers,h.size,by simp[h.lsize],λs hs=>h.late s λj hj=>back j (hs j hj),hclosed⟩
  by_cases e:i=j
  ·subst e;rw[hdi,hd]at hj;cases hj
  rw[getD_set_ne false e]at hl;exact hold j d (λe'=>e e'.symm) hj hl
 | some d=>
  obtain⟨hdn,hu⟩:=h3 d hd;refine⟨⟨k,hG,hk,hks,λj d' hj hl=>?_⟩,h.defers,by simp[Act.put,h.size],by simp[h.lsize],λs hs=>?_,hclosed⟩
  ·rw[eval_put];by_cases e:i=j
   ·subst e;rw[hdi,hd]at hj;cases hj
    rw[if_pos ⟨rfl,by rw[h.size,<-hn];exact hdn⟩]
    exact hv
   rw[if_neg]
   ·rw[getD_set_ne false e]at hl;exact hold j d' (λe'=>e e'.symm) hj hl
   rintro⟨rfl,_⟩;exact hu j (λe'=>e e'.symm) hj
  rw[eval_put,if_neg]
  ·exact h.late s λj hj=>back j (hs j hj)
  rintro⟨rfl,_⟩;have:=hs i (by rw[hdi,hd])
  rw[hsame]at this;cases this
end
section
variable {P : Program}
def zB(P:Program)(sk:Nat->Bool)(l:List Oper)(V:Nat->Nat->World->Value->Prop)(G:Nat->World->Prop)(le:World->World->Prop)(a0:Act)(Q:Exit->Act->World->Prop):Nat->List (Option Nat)->List Oper->Prop
 | _,_,[]=>True
 | i,[],o::r=>(sk i=false->∀k,Le P l V G le a0 Q k i o)/\zB P sk l V G le a0 Q (i+1) [] r
 | i,none::st,o::r=>(sk i=false->∀k,Le P l V G le a0 Q k i o)/\zB P sk l V G le a0 Q (i+1) st r
 | i,some s::st,o::r=>(sk i=false->Rf P l V G a0 Q s i o)/\zB P sk l V G le a0 Q (i+1) st r
theorem zB.at {sk:Nat->Bool} {l:List Oper} {V:Nat->Nat->World->Value->Prop} {G:Nat->World->Prop} {le:World->World->Prop} {a0:Act} {Q:Exit->Act->World->Prop}:
  ∀(r:List Oper) (st:List (Option Nat)) (k i:Nat) (o:Oper),zB P sk l V G le a0 Q k st r->r[i]? =some o->
   match gV st i with | none=>sk (k+i)=false->∀q,Le P l V G le a0 Q q (k+i) o | some s=>sk (k+i)=false->Rf P l V G a0 Q s (k+i) o
 | [],_,_,_,_,_,h=>by simp at h
 | o::r,[],k,0,o',h,h'=>by simp at h';subst h';exact h.1
 | o::r,none::st,k,0,o',h,h'=>by simp at h';subst h';exact h.1
 | o::r,some s::st,k,0,o',h,h'=>by simp at h';subst h';exact h.1
 | o::r,[],k,i+1,o',h,h'=>by
  have:=zB.at r [] (k+1) i o' h.2 (by simpa using h')
  rw[show k+1+i=k+(i+1) by omega]at this
  simpa[gV]using this
 | o::r,none::st,k,i+1,o',h,h'=>by
  have:=zB.at r st (k+1) i o' h.2 (by simpa using h')
  rw[show k+1+i=k+(i+1) by omega]at this
  simpa[gV]using this
 | o::r,some s::st,k,i+1,o',h,h'=>by
  have:=zB.at r st (k+1) i o' h.2 (by simpa using h')
  rw[show k+1+i=k+(i+1) by omega]at this
  simpa[gV]using this
def M6(sk:Nat->Bool)(V:Nat->World->Value->Prop):Nat->List Oper->Prop
 | _,[]=>True
 | i,o::r=>(match o.guard with | none=>sk i=false | some (j,b)=>∀w v,V j w v->v=.bool (if sk i then !b else b)∨(sk i=true/\v=undef))/\M6 sk V (i+1) r
theorem M6.at {sk:Nat->Bool} {V:Nat->World->Value->Prop}:∀(r:List Oper) (k i:Nat) (o:Oper),M6 sk V k r->r[i]? =some o->match o.guard with | none=>sk (k+i)=false | some (j,b)=>∀w v,V j w v->v=.bool (if sk (k+i)then !b else b)∨(sk (k+i)=true/\v=undef)
 | [],_,_,_,_,h=>by simp at h
 | o::r,k,0,o',h,h'=>by simp at h';subst h';exact h.1
 | o::r,k,i+1,o',h,h'=>by
  have:=M6.at r (k+1) i o' h.2 (by simpa using h')
  rwa [show k+1+i=k+(i+1) by omega]at this
theorem CJ(sk:Nat->Bool) {l:List Oper} {st:List (Option Nat)} {S:List Nat} {V:Nat->Nat->World->Value->Prop} {G:Nat->World->Prop} {le:World->World->Prop} {a0:Act} {Q:Exit->Act->World->Prop}
  (hst:∀i k w w' v,le w w'->V i k w v->V i k w' v) (hB:qU l a0.tmps.size=true) (hS:seqB l S=true) (hT:xY l.length st S=true) (hO:zB P sk l V G le a0 Q 0 st l) (hg:∀k,M6 sk (λj=>V j k) 0 l) (hU:∀i,sk i=true->gV st i=none/\∀k w,V i k w undef)
  (hQ:∀a w,G S.length w->a.defers=a0.defers->a.tmps.size=a0.tmps.size->Lg l a0 a->(∀i d,dQ l i=some d->V i S.length w (a.eval (.tmp d)))->Q .normal a w):
  ∀(fuel:Nat) (listed:Array Bool) (a:Act) (w:World),(List.range l.length).countP (λi=> !listed.getD i true)<=fuel->Jg l S V G a0 listed a w->wpAny P .any l.toArray Q fuel listed a w:=by
 have done:∀(listed:Array Bool) (a:Act) (w:World),Jg l S V G a0 listed a w->Region.ready .any l.toArray listed=[]->Q .normal a w:=by
  intro listed a w inv hr;have all:∀n i,i<n->i<l.length->listed.getD i true=true:=by
   intro n
   induction n with
   | zero=>intro i hi;omega
   | succ n ih=>
    intro i hin hil
    cases hl:listed.getD i true with
    | true=>rfl
    | false=>
     have hmem:i∈Region.ready .any l.toArray listed:=by
      refine mem_ready.2 ⟨hl,l[i],by simp[hil],λe he hb=>?_⟩
      have hlt:=(gX hB (List.getElem?_eq_getElem hil)).1 e (by simpa using he) hb
      have:=ih e.on (by omega) (by omega)
      have hs:e.on<listed.size:=by rw[inv.lsize];omega
      simp[hs]at this ⊢;exact this
     rw[hr]at hmem;cases hmem
  have Wd:∀i,i<l.length->listed.getD i false=true:=λi hil=>by
   have h1:=all (i+1) i (by omega) hil
   have hs:i<listed.size:=by rw[inv.lsize];exact hil
   simp[hs]at h1 ⊢;exact h1
  obtain⟨k,Wp,hk,hks,hleft⟩:=inv.stage;have hke:k=S.length:=by
   rcases Nat.lt_or_ge k S.length with h | h
   ·have h1:=(hks k S[k] (List.getElem?_eq_getElem h));have h2:=List.all_eq_true.1 (Bool.and_eq_true_iff.1 hS).1 S[k] (List.getElem_mem h);have:=h1.1 (Wd _ (by simpa using h2))
    omega
   omega
  subst hke;refine hQ a w Wp inv.defers inv.size (yO inv.late) λi d hd=>?_;have hil:i<l.length:=by
   rcases Nat.lt_or_ge i l.length with h | h
   ·exact h
   simp[dQ,List.getElem?_eq_none h]at hd
  exact hleft i d hd (Wd i hil)
 intro fuel
 induction fuel with
 | zero=>
  intro listed a w hc inv;have hr:Region.ready .any l.toArray listed=[]:=by
   rw[List.eq_nil_iff_forall_not_mem];intro i hi;have hun:=(mem_ready.1 hi).1;have hil:i<l.length:=by
    obtain⟨_,o,ho,_⟩:=mem_ready.1 hi;have:=(Array.getElem?_eq_some_iff.1 ho).1;simpa using this
   have:0<(List.range l.length).countP (λi=> !listed.getD i true):=List.countP_pos_iff.2 ⟨i,List.mem_range.2 hil,by rw[hun];rfl⟩
   omega
  exact⟨hr,done listed a w inv hr⟩
 | succ fuel ih=>
  intro listed a w hc inv;refine⟨λhr=>done listed a w inv hr,λi hi=>?_⟩;obtain⟨hun,o,ho,hall⟩:=mem_ready.1 hi;have hlo:l[i]? =some o:=by simpa using ho
  have hil:i<l.length:=(List.getElem?_eq_some_iff.1 hlo).1;have hloc:=zB.at l st 0 i o hO hlo;rw[Nat.zero_add]at hloc;have Yz:listed.getD i false=false:=by
   have hs:i<listed.size:=by rw[inv.lsize];exact hil
   simp[hs]at hun ⊢;exact hun
  have Si:F7 l a0 a i:=λs hs=>inv.late s λj hj=>by
   cases hq:listed.getD j false with
   | false=>rfl
   | true=>
    have hjl:j<l.length:=by
     rcases Nat.lt_or_ge j l.length with h | h
     ·exact h
     simp[dQ,List.getElem?_eq_none h]at hj
    have h1:=List.all_eq_true.1 hs j (List.mem_range.2 hjl);simp only[hj,bne_self_eq_false,Bool.false_or]at h1;rw[qV inv.closed _ _ _ h1 hq]at Yz;cases Yz
  obtain⟨k,Wp,hkl,hks,hleft⟩:=inv.stage;have Sj:DK l (λj=>V j k) a w o.after.toList:=Fz hleft _ λe he hb=>hall e (by simpa using he) hb
  have hcount:(List.range l.length).countP (λj=> !(listed.setIfInBounds i true).getD j true)<=fuel:=by
   have:(List.range l.length).countP (λj=> !(listed.setIfInBounds i true).getD j true)<(List.range l.length).countP (λj=> !listed.getD j true):=by
    refine tH _ i (List.mem_range.2 hil) ?_ ?_ ?_
    ·intro j _ hj;by_cases e:i=j
     ·subst e;have hs:i<listed.size:=by rw[inv.lsize];exact hil
      simp[hs]at hj
     rw[getD_set_ne true e]at hj;exact hj
    ·have hs:i<listed.size:=by rw[inv.lsize];exact hil
     simp[hs]
    rw[hun];rfl
   omega
  have hwant:Region.wanted o (yielded l.toArray a.tmps)=!(sk i):=by
   unfold Region.wanted
   cases hgd:o.guard with
   | none=>
    have hgv:=M6.at l 0 i o (hg k) hlo;rw[hgd,Nat.zero_add]at hgv;simp only at hgv;rw[hgv];rfl
   | some jb=>
    obtain⟨j,b⟩:=jb;obtain⟨⟨e,he,hb,rfl⟩,hds⟩:=(gX hB hlo).2.1 j b hgd;obtain⟨d,hd⟩:=Option.isSome_iff_exists.1 hds;have hlj:=hall e (by simpa using he) hb
    have hv:=hleft e.on d hd hlj;have hgv:=M6.at l 0 i o (hg k) hlo;rw[hgd,Nat.zero_add]at hgv;have hval:=hgv w _ hv;have ZN:e.on<l.length:=by
     rcases Nat.lt_or_ge e.on l.length with h | h
     ·exact h
     simp[dQ,List.getElem?_eq_none h]at hd
    have hdn:=((gX hB (List.getElem?_eq_getElem ZN)).2.2 d (by simpa[dQ,ZN]using hd)).1
    have hdt:d<a.tmps.size:=by rw[inv.size];exact hdn
    have e1:a.eval (.tmp d)=a.tmps[d]:=by simp[Act.eval,hdt]
    have h4:(l.toArray[e.on]?.bind (·.dst))=some d:=by simpa[dQ]using hd
    rw[e1]at hval;rcases hval with hval | ⟨hs1,hval⟩
    ·have h3:a.tmps[d]? =some (.bool (if sk i then !b else b)):=by
      rw[Array.getElem?_eq_getElem hdt,hval]
     simp only[yielded,h4,Option.bind_some,h3];cases sk i <;> cases b <;> simp
    ·have h3:a.tmps[d]? =some undef:=by
      rw[Array.getElem?_eq_getElem hdt,hval]
     simp only[yielded,h4,Option.bind_some,h3,hs1];cases b <;> rfl
  have hT1:=List.all_eq_true.1 (Bool.and_eq_true_iff.1 hT).1 i (List.mem_range.2 hil);have hisz:i<listed.size:=by rw[inv.lsize];exact hil
  unfold wpOp
  cases hsk:sk i with
  | true=>
   rw[hsk]at hwant;obtain⟨hsn,il⟩:=hU i hsk;rw[hsn]at hT1;simp only[ho,hwant,Bool.not_true,Bool.false_eq_true,if_false];refine ih _ _ _ hcount (inv.step rfl hB hlo (λe he hb=>hall e (by simpa using he) hb) Wp hkl (λs j hj=>?_) (il k w) λj d _ hj hl=>hleft j d hj hl)
   have hne:i≠j:=by
    rintro rfl;have:S.contains i=true:=by
     rw[List.contains_iff_mem];exact List.mem_of_getElem? hj
    simp only[this,Bool.not_true]at hT1;cases hT1
   rw[getD_set_ne false hne];exact hks s j hj
  | false=>
  rw[hsk]at hwant;simp only[ho,hwant,Bool.not_false,if_true]
  left
  cases hs:gV st i with
  | none=>
   rw[hs]at hloc hT1;refine hloc hsk k a w Wp Si Sj _ λv w' hv hG hle=>ih _ _ _ hcount (inv.step rfl hB hlo (λe he hb=>hall e (by simpa using he) hb) hG hkl (λs j hj=>?_) hv λj d _ hj hl=>hst _ _ _ _ _ hle (hleft j d hj hl))
   have hne:i≠j:=by
    rintro rfl;have:S.contains i=true:=by
     rw[List.contains_iff_mem];exact List.mem_of_getElem? hj
    simp only[this,Bool.not_true]at hT1;cases hT1
   rw[getD_set_ne false hne];exact hks s j hj
  | some s=>
   rw[hs]at hloc hT1;have VJ:S[s]? =some i:=by simpa using hT1
   have hsl:s<S.length:=(List.getElem?_eq_some_iff.1 VJ).1;have Yy:listed.getD i false=false:=by
    simp[hisz]at hun ⊢;exact hun
   have hk1:¬s<k:=λh=>by
    have:=(hks s i VJ).2 h;rw[Yy]at this;cases this
   have hk2:s<=k:=by
    match s,VJ with
    | 0,_=>omega
    | s+1,VJ=>
     have h1:=List.all_eq_true.1 (Bool.and_eq_true_iff.1 hS).2 (s+1) (List.mem_range.2 hsl);have hSj:S[s]? =some S[s]:=List.getElem?_eq_getElem (by omega)
     simp only[VJ,hSj,hlo,Bool.and_eq_true]at h1;obtain⟨e,he,hb⟩:=List.any_eq_true.1 h1.2;simp only[Bool.and_eq_true,beq_iff_eq]at hb;have hlj:=hall e (by simpa using he) hb.1
     rw[hb.2]at hlj;have:=(hks s S[s] hSj).1 hlj;omega
   have hke:k=s:=by omega
   subst hke;refine hloc hsk a w Wp Si Sj _ λv w' hv hG hkeep=>ih _ _ _ hcount (inv.step rfl hB hlo (λe he hb=>hall e (by simpa using he) hb) hG (by omega) (λs' j hj=>?_) hv λj d hne hj hl=>hkeep j _ hne (hleft j d hj hl))
   by_cases hij:i=j
   ·subst hij;have Yt:s'<S.length:=(List.getElem?_eq_some_iff.1 hj).1;have h2:=List.all_eq_true.1 (Bool.and_eq_true_iff.1 hT).2 s' (List.mem_range.2 Yt);simp only[hj,hs]at h2;have:k=s':=by simpa using h2
    subst this;simp[hisz]
   rw[getD_set_ne false hij,hks s' j hj];refine⟨λh=>by omega,λh=>?_⟩
   have:s'≠k:=by
    rintro rfl;rw[VJ]at hj;injection hj with hj
    exact hij hj
   omega
theorem bD(sk:Nat->Bool) {id:Nat} {l:List Oper} {a0:Act} {w:World} {Q:Exit->Act->World->Prop}(hm:P.follows .mixedOrders=true)(st:List (Option Nat))(S:List Nat)(V:Nat->Nat->World->Value->Prop)(G:Nat->World->Prop)(le:World->World->Prop)
  (hst:∀i k w w' v,le w w'->V i k w v->V i k w' v) (hB:qU l a0.tmps.size=true) (hS:seqB l S=true) (hT:xY l.length st S=true) (hG:G 0 { w with drawn:=w.drawn+1 }) (hg:∀k,M6 sk (λj=>V j k) 0 l) (hU:∀i,sk i=true->gV st i=none/\∀k w,V i k w undef) (hO:zB P sk l V G le a0 Q 0 st l)
  (hQ:∀vs w,G S.length w->vs.length=l.length->(∀i d v,dQ l i=some d->vs[i]? =some v->V i S.length w v)->Q .normal (dG l vs a0) w):
  (Code.region id l.toArray true).wp P Q a0 w:=by
 refine wp_region_any hm ?_;refine CJ sk hst hB hS hT hO hg hU (λa w uQ hd hs Si hleft=>?_) l.toArray.size (Array.replicate l.toArray.size false) a0 { w with drawn:=w.drawn+1 } (Nat.le_trans List.countP_le_length (by simp))
  ⟨⟨0,hG,Nat.zero_le _,λs i _=>⟨λh=>(by rw[getD_replicate_false]at h;cases h),λh=>(by omega)⟩,λi d _ hl=>(by rw[getD_replicate_false]at hl;cases hl)⟩,rfl,rfl,by simp,λ_ _=>rfl,λi o _ hl=>(by rw[getD_replicate_false]at hl;cases hl)⟩
 have e:dG l (kV a l) a0=a:=DU ((mR _ _ _).trans hd.symm) ((qY _ _ _).trans hs.symm) (qX a l a0 hs Si);rw[<-e];refine hQ _ w uQ (by simp[kV]) λi d v hid hv=>?_
 have h:=hleft i d hid;have hil:(kV a l)[i]? =some (a.eval (.tmp d)):=by
  rw[dQ]at hid
  cases ho:l[i]? with
  | none=>rw[ho]at hid;cases hid
  | some o=>
   rw[ho]at hid;have hod:o.dst=some d:=hid;simp[kV,ho,hod]
 rw[hil]at hv;injection hv with hv
 rw[<-hv];exact h
end
end Go.Proofs.YtjeeghafachebaaGreat
