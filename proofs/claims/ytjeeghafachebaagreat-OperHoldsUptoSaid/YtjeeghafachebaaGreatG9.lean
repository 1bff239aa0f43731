/-
  Part 9 of 53 of what the proof leans on.
-/
import Derived.Test.YtjeeghafachebaaGreatRows
import Derived.Test.YtjeeghafachebaaGreatG7
import Derived.Test.YtjeeghafachebaaGreatG2
import Derived.Laws.Externs
import Derived.Laws.Cover3
namespace Go.Proofs.YtjeeghafachebaaGreat
open Go Go.RowKit Ieee
theorem frep_hi : FRep 4742290407621132288 1073741824 := ⟨false, 4503599627370496, -22, by kernel_rfl, by decide +kernel⟩
end Go.Proofs.YtjeeghafachebaaGreat
namespace Go.Proofs.YtjeeghafachebaaGreat
open Go Go.RowKit Ieee
theorem frep_0 : FRep 0 0 := ⟨false, 0, -1074, by kernel_rfl, by decide +kernel⟩
def CRep (z : Value) (u v : Int) : Prop := ∃ p q, z = .complex .f64 p q ∧ FRep p u ∧ FRep q v
theorem CRep.eql {z1 z2 : Value} {u v a b : Int} (h : CRep z1 u v) (k : CRep z2 a b) (t : TypeId) (w : World) : (binOp .eql t z1 z2).run Tryz.prog w = .ok (.bool (decide (u = a ∧ v = b))) w := by
  obtain ⟨p, q, rfl, h1, h2⟩ := h; obtain ⟨p', q', rfl, k1, k2⟩ := k; exact run_ceql w t h1 k1 h2 k2
theorem CRep.guard {z1 z2 : Value} {u v a b : Int} (h : CRep z1 u v) (k : CRep z2 a b) (op : BinOp) (t : TypeId) (o1 o2 : Operand) (w : World) : (eqGuard op t o1 o2 z1 z2).run Tryz.prog w = .ok () w := by
  obtain ⟨p, q, rfl, h1, h2⟩ := h; obtain ⟨p', q', rfl, k1, k2⟩ := k
  cases op <;> rfl
theorem CRep.of (a b : Int) (h : InP a b) : CRep (.complex .f64 (fOf a) (fOf b)) a b := ⟨_, _, rfl, fOf_rep a (by unfold InP at h; omega), fOf_rep b (by unfold InP at h; omega)⟩
end Go.Proofs.YtjeeghafachebaaGreat
