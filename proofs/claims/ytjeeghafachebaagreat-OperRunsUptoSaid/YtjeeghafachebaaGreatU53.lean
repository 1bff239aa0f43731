/-
  53.
-/
import Derived.Test.YtjeeghafachebaaGreatU15
set_option maxRecDepth 100000
namespace Go.Proofs.YtjeeghafachebaaGreat
open Go Go.ChangeShapes Go.WideShapes Go.ChangeAt Go.WideMaps Go.WideElems Go.RowKit Go.Proofs.Tryz
/-- A A9 that came in as an argument. -/
theorem JZ {H:Type} {enc:TypeId × Value->H} {w W:World} {base:Nat} {v:Value} {d:DataW H} {p:List MemPlace}(hv:Value.okWide prog W .any base 23 v)
  (h:DataW.Trod enc prog w 0 (λ_=>true) true 23 v d p):∃x:bz,v=.agg x.cells:=by
 simp only[Value.okWide,underlying23]at hv;obtain⟨cs,rfl,_⟩:=hv;obtain⟨hsz,hr⟩:=Pj underlying23 (by kernel_rfl) (by kernel_rfl) h
 obtain⟨v0,y0,n0,c0,t0,_⟩:=hr 0 _ rfl;obtain⟨v1,y1,n1,c1,t1,_⟩:=hr 1 _ rfl;obtain⟨v2,y2,n2,c2,t2,_⟩:=hr 2 _ rfl;obtain⟨v3,y3,n3,c3,t3,_⟩:=hr 3 _ rfl;obtain⟨v4,y4,n4,c4,t4,_⟩:=hr 4 _ rfl;obtain⟨v5,y5,n5,c5,t5,_⟩:=hr 5 _ rfl;obtain⟨z0,rfl,_⟩:=open_int' t0;obtain⟨z1,rfl,_⟩:=open_int' t1;obtain⟨z2,rfl,_⟩:=open_int' t2;obtain⟨z3,rfl,_⟩:=open_int' t3;obtain⟨z4,rfl,_⟩:=open_int' t4;obtain⟨z5,rfl,_⟩:=open_int' t5;refine⟨⟨z0,z1,z2,z3,z4,z5⟩,?_⟩;obtain⟨l⟩:=cs
 match l,(show l.length=6 from hsz)with
 | [a,b,c,e,f,g],_=>
  cases c0
  cases c1
  cases c2
  cases c3
  cases c4
  cases c5
  rfl
theorem Fv {W:World} {base:Nat} {v:Value}(h:Value.okWide prog W .any base 24 v):∃a len cap,v=.slice a len cap/\len<=cap/\(a=none->cap=0):=by
 simp only[Value.okWide,underlying24]at h;simp only[Cell.okWide,underlying24]at h
 cases v with
 | slice a len cap=>
  cases a with
  | none=>
   cases len with
   | zero=>
    cases cap with
    | zero=>exact⟨none,0,0,rfl,bfx _,λ_=>rfl⟩
    | succ c=>simp[Cell.ok,underlying24]at h
   | succ l=>simp[Cell.ok,underlying24]at h
  | some a=>
   simp only[Cell.ok,underlying24]at h;exact⟨_,_,_,rfl,h.1,λe=>by cases e⟩
 | _=>simp[Cell.ok,underlying24]at h
end Go.Proofs.YtjeeghafachebaaGreat
