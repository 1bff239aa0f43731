/-
  14.
-/
import Derived.Test.YtjeeghafachebaaGreatU1
namespace Go.Proofs.YtjeeghafachebaaGreat
open Go
section
variable {P : Program}
def Bj(l:List Oper):Nat->Nat->Nat->Bool
 | 0,_,_=>false
 | f+1,j,i=>match l[j]? with | none=>false | some o=>o.after.toList.any λe=>Region.binds .any e && (e.on==i || Bj l f e.on i)
def Ru(l:List Oper)(i s:Nat):Bool:=(List.range l.length).all λj=>dQ l j !=some s || Bj l l.length j i
def F7(l:List Oper)(a0 a:Act)(i:Nat):Prop:=∀s,Ru l i s=true->a.eval (.tmp s)=a0.eval (.tmp s)
theorem qV {l:List Oper} {listed:Array Bool}(hc:∀j o,l[j]? =some o->listed.getD j false=true->∀e∈o.after.toList,Region.binds .any e=true->listed.getD e.on false=true):
  ∀(f j i:Nat),Bj l f j i=true->listed.getD j false=true->listed.getD i false=true
 | 0,_,_,h,_=>by simp[Bj]at h
 | f+1,j,i,h,hj=>by
  rw[Bj]at h
  cases ho:l[j]? with
  | none=>rw[ho]at h;cases h
  | some o=>
   rw[ho]at h;obtain⟨e,he,hb⟩:=List.any_eq_true.1 h;simp only[Bool.and_eq_true,Bool.or_eq_true,beq_iff_eq]at hb;have h1:=hc j o ho hj e he hb.1;rcases hb.2 with rfl | hb
   ·exact h1
   exact qV hc f _ _ hb h1
theorem yO {l:List Oper} {a0 a:Act} {listed:Array Bool}(h:∀s,(∀j,dQ l j=some s->listed.getD j false=false)->a.eval (.tmp s)=a0.eval (.tmp s)):Lg l a0 a:=λs hs=>
 h s λj hj=>by
  rw[dQ]at hj
  cases ho:l[j]? with
  | none=>rw[ho]at hj;cases hj
  | some o=>
   rw[ho]at hj;have h1:=List.all_eq_true.1 hs o (List.mem_of_getElem? ho);have hj':o.dst=some s:=hj;simp[hj']at h1
end
end Go.Proofs.YtjeeghafachebaaGreat
