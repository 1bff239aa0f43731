/- 4. -/
import Derived.ProofKit
import Derived.OpenShut
import Derived.LaidMore
import Derived.Stop.Joined
import Derived.Stop.LaidErr
import Derived.Lib.LaidTab
import Derived.Deep.Slices
import Derived.Test.YtgfmbkoieacgoaaGreatDoorW2
namespace Go.Proofs.YtgfmbkoieacgoaaGreatDoor
open Go Go.ChangeShapes Go.WideShapes Go.ChangeAt Go.WideMaps Go.WideElems Go.RowKit Go.Proofs.Tryz
theorem own:ownKnob prog.godebug=none:=by kernel_rfl
theorem laidOut:laidOutB prog=true:=by kernel_rfl
def recB(P:Program)(fs:Array Field):Bool:=(List.range fs.size).all λj=>match fs[j]? with | some f=>f.offset==j && P.cellsOf f.type==1 | none=>true
theorem recB_spec {P:Program} {a:Array Field}(h:recB P a=true) {j:Nat} {f:Field}(b:a[j]? =some f):f.offset=j/\P.cellsOf f.type=1:=by
 have c:j<a.size:=(Array.getElem?_eq_some_iff.1 b).1;have:=List.all_eq_true.1 h j (List.mem_range.2 c);simp only[b,bf8,beq_iff_eq]at this;exact this
open Go Go.RowKit Go.Proofs.Tryz
theorem open_rec {P:Program} {T:TypeId} {a:Array Field}(u:P.underlying T=some (.struct a))(z:P.cellsOf T=a.size)(D:recB P a=true)
  {H:Type} {enc:TypeId × Value->H} {w:World} {b:Array Value} {d:DataW H} {p:List MemPlace} (h:DataW.Trod enc P w 0 (λ_=>true) true T (.agg b) d p):
  b.size=a.size/\∀(j:Nat) (f:Field),a[j]? =some f->
   ∃(v:Value) (y:DataW H × List MemPlace) (n:Nat),b[j]? =some v/\DataW.trod enc P w 0 (λ_=>true) true n f.type [v]=some y/\∀k∈y.1.weights P f.type,k∈d.weights P T:=by
 obtain⟨fuel,E⟩:=h;obtain⟨e,q,_,c,x,F,m⟩:=DataW.trod_struct u E;have o:b.size=a.size:=by
  rw[z]at x;simpa[Value.cells]using x
 refine⟨o,λj f l=>?_⟩;obtain⟨I,J⟩:=recB_spec D l;have K:j<a.size:=(Array.getElem?_eq_some_iff.1 l).1;have r:j<(Value.agg b).cells.toList.length:=by simp[Value.cells];omega
 have g:=m j f l;rw[I,J,List.drop_eq_getElem_cons r,List.take_succ_cons,List.take_zero,bfs (show j<e.length by omega)]at g
 have s:j<b.size:=by omega
 refine⟨b[j],e[j],q,bgm s,?_,λk L=>?_⟩
 ·simpa[Value.cells]using g
 simp only[Prod.mk.injEq]at c;rw[c.1];simp only[DataW.weights,u];exact DataW.weights_mem_each (j:=j) (t:=f.type) (d:=e[j].1) (by simp[l]) (by simp[show j<e.length by omega]) k L
end Go.Proofs.YtgfmbkoieacgoaaGreatDoor
