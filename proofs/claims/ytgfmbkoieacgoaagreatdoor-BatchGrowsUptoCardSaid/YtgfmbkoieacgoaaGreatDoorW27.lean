/- 27. -/
import Derived.Deep.RegionHeld3
import Derived.Test.YtgfmbkoieacgoaaGreatDoorW2
namespace Go.Proofs.YtgfmbkoieacgoaaGreatDoor
open Go
section
variable {P : Program} {l : List Oper} {Q : Exit -> Act -> World -> Prop} {md : Region.Mode} {S : World -> Prop}
theorem tkFree {i:Nat} {d:Oper} {v:Value} {fuel:Nat} {b:Array Bool} {a:Act} {w:World}(e:l[i]? =some d)
  (j:Region.noSelect l.toArray=true) (k:Region.free md l.toArray b i=true) (m:(Region.ready md l.toArray b).contains i=true)
  (n:∀c a w,Q (.panic c) (a.put d.dst v) w->Q (.panic c) a w) (o:YieldsIf P l.toArray S d v a) (p:S w)
  (h:wpAnyH P md l.toArray Q S fuel (b.setIfInBounds i true) (a.put d.dst v) w):wpAnyH P md l.toArray Q S (fuel+1) b a w:=
 wpAnyH_take (by rw[List.getElem?_toArray];exact e) j k m n o p h
theorem tkF(i:Nat) {d:Oper} {v:Value} {fuel:Nat} {b:Array Bool} {a:Act} {w:World}(e:S w)(h:wpAnyH P md l.toArray Q S fuel (b.setIfInBounds i true) (a.put d.dst v) w)(j:l[i]? =some d:=by rfl)(k:Region.noSelect l.toArray=true:=by kernel_rfl)(m:Region.free md l.toArray b i=true:=by kernel_rfl)(n:(Region.ready md l.toArray b).contains i=true:=by kernel_rfl)(o:∀c a w,Q (.panic c) (a.put d.dst v) w->Q (.panic c) a w:=by exact λ_ _ _ h=>h)(p:YieldsIf P l.toArray S d v a:=by exact .inl ⟨by rfl,λw q=>by go_simp;rfl⟩):wpAnyH P md l.toArray Q S (fuel+1) b a w:=tkFree j k m n o p e h
theorem tkOne(i:Nat) {c:Oper} {fuel:Nat} {b:Array Bool} {a:Act} {w:World}(d:l[i]? =some c)(e:Region.ready md l.toArray b=[i])(j:c.guard=none)
  (h:∀K:Act->World->Prop,(∀a w,S w->wpAnyH P md l.toArray Q S fuel (b.setIfInBounds i true) a w->K a w)->c.wp P a w K Q):wpAnyH P md l.toArray Q S (fuel+1) b a w:=by
 refine wpAnyH_ready e (by simp) (AllReadyH.cons (o:=c) (by rw[List.getElem?_toArray];exact d) (λK k=>?_) AllReadyH.nil)
 rw[if_pos (by simp[Region.wanted,j])]
 exact h K λa w m n=>k.out a w m λ_=>n
theorem tkWant(i:Nat) {c:Oper} {fuel:Nat} {b:Array Bool} {a:Act} {w:World}(d:l[i]? =some c)(e:Region.ready md l.toArray b=[i])(j:Region.wanted c (yielded l.toArray a.tmps)=true)
  (h:∀K:Act->World->Prop,(∀a w,S w->wpAnyH P md l.toArray Q S fuel (b.setIfInBounds i true) a w->K a w)->c.wp P a w K Q):wpAnyH P md l.toArray Q S (fuel+1) b a w:=by
 refine wpAnyH_ready e (by simp) (AllReadyH.cons (o:=c) (by rw[List.getElem?_toArray];exact d) (λK k=>?_) AllReadyH.nil)
 rw[if_pos j];exact h K λa w m n=>k.out a w m λ_=>n
theorem tkTwo(i j:Nat) {c d:Oper} {fuel:Nat} {b:Array Bool} {a:Act} {w:World}(p:l[i]? =some c)(q:l[j]? =some d)(r:Region.ready md l.toArray b=[i,j])(s:c.guard=none)(e:d.guard=none)
  (h:∀K:Act->World->Prop,(∀a w,S w->wpAnyH P md l.toArray Q S fuel (b.setIfInBounds i true) a w->K a w)->c.wp P a w K Q)
  (u:∀K:Act->World->Prop,(∀a w,S w->wpAnyH P md l.toArray Q S fuel (b.setIfInBounds j true) a w->K a w)->d.wp P a w K Q):wpAnyH P md l.toArray Q S (fuel+1) b a w:=by
 refine wpAnyH_ready r (by simp) (AllReadyH.cons (o:=c) (by rw[List.getElem?_toArray];exact p) (λK k=>?_) (AllReadyH.cons (o:=d) (by rw[List.getElem?_toArray];exact q) (λK k=>?_) AllReadyH.nil))
 ·rw[if_pos (by simp[Region.wanted,s])]
  exact h K λa w m n=>k.out a w m λ_=>n
 rw[if_pos (by simp[Region.wanted,e])]
 exact u K λa w m n=>k.out a w m λ_=>n
end
end Go.Proofs.YtgfmbkoieacgoaaGreatDoor
