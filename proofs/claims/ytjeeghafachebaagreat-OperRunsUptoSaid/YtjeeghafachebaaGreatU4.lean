/-
  4.
-/
import Derived.Test.YtjeeghafachebaaGreatU2
import Derived.ProofKit
import Derived.OpenShut
import Derived.LaidMore
import Derived.Stop.Joined
import Derived.Stop.LaidErr
import Derived.Lib.LaidTab
import Derived.Deep.Slices
namespace Go.Proofs.YtjeeghafachebaaGreat
open Go Go.ChangeShapes Go.WideShapes Go.ChangeAt Go.WideMaps Go.WideElems Go.RowKit Go.Proofs.Tryz
theorem own:ownKnob prog.godebug=none:=by kernel_rfl
theorem laidOut:laidOutB prog=true:=by kernel_rfl
def Q3(P:Program)(fs:Array Field):Bool:=(List.range fs.size).all λj=>match fs[j]? with | some f=>f.offset==j && P.cellsOf f.type==1 | none=>true
theorem Dn {P:Program} {fs:Array Field}(h:Q3 P fs=true) {j:Nat} {f:Field}(hj:fs[j]? =some f):f.offset=j/\P.cellsOf f.type=1:=by
 have hl:j<fs.size:=(Array.getElem?_eq_some_iff.1 hj).1;have:=List.all_eq_true.1 h j (List.mem_range.2 hl);simp only[hj,bf8,beq_iff_eq]at this;exact this
end Go.Proofs.YtjeeghafachebaaGreat
namespace Go.Proofs.YtjeeghafachebaaGreat
open Go Go.RowKit Go.Proofs.Tryz
theorem Pj {P:Program} {T:TypeId} {fs:Array Field}(hT:P.underlying T=some (.struct fs))(ce:P.cellsOf T=fs.size)(hB:Q3 P fs=true)
  {H:Type} {enc:TypeId × Value->H} {w:World} {cs:Array Value} {d:DataW H} {p:List MemPlace} (h:DataW.Trod enc P w 0 (λ_=>true) true T (.agg cs) d p):
  cs.size=fs.size/\∀(j:Nat) (f:Field),fs[j]? =some f->
   ∃(v:Value) (y:DataW H × List MemPlace) (n:Nat),cs[j]? =some v/\DataW.trod enc P w 0 (λ_=>true) true n f.type [v]=some y/\∀k∈y.1.weights P f.type,k∈d.weights P T:=by
 obtain⟨fuel,hf⟩:=h;obtain⟨xs,q,_,hxy,hl,hxl,OL⟩:=DataW.trod_struct hT hf;have hcl:cs.size=fs.size:=by
  rw[ce]at hl;simpa[Value.cells]using hl
 refine⟨hcl,λj f hj=>?_⟩;obtain⟨ho,hc⟩:=Dn hB hj;have hjl:j<fs.size:=(Array.getElem?_eq_some_iff.1 hj).1;have hjc:j<(Value.agg cs).cells.toList.length:=by simp[Value.cells];omega
 have g:=OL j f hj;rw[ho,hc,List.drop_eq_getElem_cons hjc,List.take_succ_cons,List.take_zero,bfs (show j<xs.length by omega)]at g
 have hjs:j<cs.size:=by omega
 refine⟨cs[j],xs[j],q,bgm hjs,?_,λk hk=>?_⟩
 ·simpa[Value.cells]using g
 simp only[Prod.mk.injEq]at hxy;rw[hxy.1];simp only[DataW.weights,hT];exact DataW.weights_mem_each (j:=j) (t:=f.type) (d:=xs[j].1) (by simp[hj]) (by simp[show j<xs.length by omega]) k hk
end Go.Proofs.YtjeeghafachebaaGreat
