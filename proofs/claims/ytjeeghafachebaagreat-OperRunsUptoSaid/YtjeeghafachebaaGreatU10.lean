/-
  10.
-/
import Derived.Test.YtjeeghafachebaaGreatU9
import Derived.Laws.Cover3
namespace Go.Proofs.YtjeeghafachebaaGreat
open Go Go.RowKit Ieee Go.Proofs.Tryz
theorem xO:jM 0 0:=⟨false,0,-1074,by kernel_rfl,by decide+kernel⟩
def lU(z:Value)(u v:Int):Prop:=∃p q,z=.complex .f64 p q/\jM p u/\jM q v
theorem lU.eql {z1 z2:Value} {u v a b:Int}(h:lU z1 u v)(k:lU z2 a b)(t:TypeId)(w:World):(binOp .eql t z1 z2).run prog w=.ok (.bool (decide (u=a/\v=b))) w:=by
 obtain⟨p,q,rfl,h1,h2⟩:=h;obtain⟨p',q',rfl,k1,k2⟩:=k;exact Pw w t h1 k1 h2 k2
theorem lU.guard {z1 z2:Value} {u v a b:Int}(h:lU z1 u v)(k:lU z2 a b)(op:BinOp)(t:TypeId)(o1 o2:Operand)(w:World):(eqGuard op t o1 o2 z1 z2).run prog w=.ok () w:=by
 obtain⟨p,q,rfl,h1,h2⟩:=h;obtain⟨p',q',rfl,k1,k2⟩:=k;cases op <;> rfl
theorem lU.of(a b:Int)(h:mr a b):lU (.complex .f64 (F4 a) (F4 b)) a b:=⟨_,_,rfl,wG a (by unfold mr at h;omega),wG b (by unfold mr at h;omega)⟩
end Go.Proofs.YtjeeghafachebaaGreat
