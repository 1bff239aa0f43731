/-
  8.
-/
import Derived.Test.YtjeeghafachebaaGreatU6
import Derived.Test.YtjeeghafachebaaGreatU7
namespace Go.Proofs.YtjeeghafachebaaGreat
open Go Go.RowKit
def zK(x:Int)(l:List Int):Nat:=l.countP (λy=>decide (x<=y))
def jA(l:List Int):Prop:=l.Pairwise (λa b=>b<=a)
instance (l:List Int):Decidable (jA l):=inferInstanceAs (Decidable (l.Pairwise _))
def jD(v:Int):List Int->List Int
 | []=>[v]
 | a::r=>if a<v then v::a::r else a::jD v r
def lT(k:Nat)(l:List Int):List Int:=(l.foldr jD []).take k
theorem tC(x:Int):zK x []=0:=rfl
theorem jm(x a:Int)(l:List Int):zK x (a::l)=zK x l+if x<=a then 1 else 0:=by
 unfold zK;rw[List.countP_cons];by_cases h:x<=a <;> simp[h]
theorem Jq(x:Int)(l m:List Int):zK x (l++m)=zK x l+zK x m:=List.countP_append
theorem NK {l m:List Int}(h:l.Perm m)(x:Int):zK x l=zK x m:=h.countP_eq _
theorem Fh(x v:Int):∀l,zK x (jD v l)=zK x l+if x<=v then 1 else 0
 | []=>by rw[jD,jm,tC]
 | a::r=>by
  rw[jD]
  split
  ·rw[jm,jm]
  rw[jm,Fh x v r,jm];omega
theorem nI(v:Int):∀l,(jD v l).length=l.length+1
 | []=>rfl
 | a::r=>by
  rw[jD]
  split
  ·rfl
  rw[bgy,nI v r,bgy]
theorem KW(v:Int):∀l x,x∈jD v l↔x=v∨x∈l
 | [],x=>by simp[jD]
 | a::r,x=>by
  rw[jD]
  split
  ·simp
  rw[bf2,KW v r x,bf2];constructor
  ·rintro(h | h | h) <;> simp[h]
  rintro(h | h | h) <;> simp[h]
theorem pI(v:Int):∀l,jA l->jA (jD v l)
 | [],_=>by simp[jD,jA]
 | a::r,h=>by
  obtain⟨h1,h2⟩:=List.pairwise_cons.1 h;rw[jD]
  split
  ·rename_i hv;refine List.pairwise_cons.2 ⟨λb hb=>?_,h⟩;rcases List.mem_cons.1 hb with rfl | hb
   ·omega
   have:=h1 b hb;omega
  rename_i hv;refine List.pairwise_cons.2 ⟨λb hb=>?_,pI v r h2⟩;rcases(KW v r b).1 hb with rfl | hb
  ·omega
  exact h1 b hb
theorem zN {x:Int} {l:List Int}(h:∀y∈l,y<x):zK x l=0:=by
 unfold zK;rw[List.countP_eq_zero];intro y hy;have:=h y hy;simp only[bf0];omega
theorem zS:∀{s t:List Int},jA s->jA t->(∀x,zK x s=zK x t)->s=t
 | [],[],_,_,_=>rfl
 | [],b::t,_,_,h=>by
  have:=h b;rw[tC,jm,if_pos (Int.le_refl b)]at this;omega
 | a::s,[],_,_,h=>by
  have:=h a;rw[tC,jm,if_pos (Int.le_refl a)]at this;omega
 | a::s,b::t,hs,ht,h=>by
  obtain⟨s1,s2⟩:=List.pairwise_cons.1 hs;obtain⟨t1,t2⟩:=List.pairwise_cons.1 ht;have hab:a=b:=by
   rcases Int.lt_trichotomy a b with hl | he | hg
   ·have:=h b;rw[zN (l:=a::s) (λy hy=>by
     rcases List.mem_cons.1 hy with rfl | hy
     ·exact hl
     have:=s1 y hy;omega),jm,if_pos (Int.le_refl b)]at this
    omega
   ·exact he
   have:=h a;rw[zN (l:=b::t) (λy hy=>by
    rcases List.mem_cons.1 hy with rfl | hy
    ·exact hg
    have:=t1 y hy;omega),jm,if_pos (Int.le_refl a)]at this
   omega
  subst hab;rw[zS s2 t2 (λx=>by
   have:=h x;rw[jm,jm]at this;omega)]
theorem CV {l:List Int}(k:Nat)(h:jA l):jA (l.take k):=List.Pairwise.sublist (List.take_sublist k l) h
theorem zM:∀(k:Nat) (l:List Int),jA l->∀x,zK x (l.take k)=min k (zK x l)
 | 0,l,_,x=>by rw[List.take_zero,tC];omega
 | k+1,[],_,x=>by rw[List.take_nil,tC];omega
 | k+1,a::r,h,x=>by
  obtain⟨h1,h2⟩:=List.pairwise_cons.1 h;rw[List.take_succ_cons,jm,jm,zM k r h2 x]
  split
  ·omega
  rename_i hx;rw[zN (l:=r) (λy hy=>by have:=h1 y hy;omega)]
  omega
theorem mP:∀l:List Int,jA (l.foldr jD [])
 | []=>List.Pairwise.nil
 | a::r=>pI a _ (mP r)
theorem zL(x:Int):∀l:List Int,zK x (l.foldr jD [])=zK x l
 | []=>rfl
 | a::r=>by rw[List.foldr_cons,Fh,zL x r,jm]
theorem yH:∀l:List Int,(l.foldr jD []).length=l.length
 | []=>rfl
 | a::r=>by rw[List.foldr_cons,nI,yH r,bgy]
theorem sI(k:Nat)(l:List Int):jA (lT k l):=CV k (mP l)
theorem KQ(k:Nat)(l:List Int)(x:Int):zK x (lT k l)=min k (zK x l):=by rw[lT,zM k _ (mP l),zL]
theorem BU(k:Nat)(l:List Int):(lT k l).length=min k l.length:=by rw[lT,bga,yH]
theorem Qf {k:Nat} {s l:List Int}(hs:jA s)(h:∀x,zK x s=min k (zK x l)):s=lT k l:=
 zS hs (sI k l) (λx=>by rw[h,KQ])
theorem PH(k:Nat)(l:List Int)(v:Int):(jD v (lT k l)).take k=lT k (l++[v]):=by
 refine Qf (CV k (pI v _ (sI k l))) (λx=>?_);rw[zM k _ (pI v _ (sI k l)),Fh,KQ,Jq,jm,tC];omega
structure dS where
 n:Int
 a:Int
 top:List Int
 u:Int
 v:Int
deriving DecidableEq
def dP:dS:=⟨0,0,[],0,0⟩
def lL(agg:Int):Int:=if agg=2∨agg=5 then 4398046511104 else if agg=3∨agg=4 then 1099511627776 else 0
def dS.bB(q:bz)(a:dS):Bool:=
 q.bB && decide (0<=a.n/\a.n<=1073741824) && decide (mr a.u a.v) && decide (-lL q.agg<=a.a/\a.a<=lL q.agg) && decide (q.agg≠7->a.u=0/\a.v=0) && decide (a.n=0->a.a=0/\a.u=0/\a.v=0) &&
  decide ((a.top.length:Int)=if q.agg=6 then min a.n q.k else 0) && decide (∀x∈a.top,-1099511627776<=x/\x<=1099511627776) && decide (jA a.top)
def dS.merge(q:bz)(a b:dS):dS:=
 if a.n=0 then b else if b.n=0 then a else
  ⟨a.n+b.n,if q.agg=3 then min a.a b.a else if q.agg=4 then max a.a b.a else a.a+b.a,if q.agg=6 then lT q.k.toNat (a.top++b.top)else a.top,a.u+b.u,a.v+b.v⟩
theorem BX(v:Int): -1<=(kZ v).1/\(kZ v).1<=1/\ -1<=(kZ v).2/\(kZ v).2<=1:=by
 unfold kZ
 split
 ·omega
 split
 ·omega
 split <;> omega
end Go.Proofs.YtjeeghafachebaaGreat
