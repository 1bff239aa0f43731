/-
  The contracts of a store's Sync and Crash, and of the functions that they hand to settle.
-/
import Derived.Test.YtdmnhgbdeifpbaaStoreSettle
import Derived.Shelf.Abstract
namespace Go.Proofs.Ytdmnhgbdeifpbaa
open Go Go.RowKit

section
variable {w : World} {base : Nat} {f : StF} {s : StS}
end
/-- A slice of bools that came in. -/
def KeepAt (w : World) (a : Option Addr) (keep : List Bool) : Prop :=
  keep.length = 0 ∨ ∃ ab off, a = some ⟨ab, off, none⟩ ∧ ∀ j < keep.length, w.cell? ⟨ab, off + j, none⟩ = some (.bool (keep.getD j false))
theorem crash_end {w w1 w2 : World} {base : Nat} {f f1 : StF} {s : StS} {keep : List Bool} {t c : Int} (hA : StAt w2 base f1 (s.settled (crashM keep t c))) (hb : f1.b = f.b) (hf : ∀ k, f1.has k → f.has k ∨ w1.heap.size ≤ k)
    (hk : SKept f w1 w2) (hk1 : SKept f w w1) : SEnd w base f (s.crashed keep t c) (w2.setCell ⟨f.b, 3, none⟩ (.int .i64 (-1))) := by
  rw [crashed_eq, ← hb]
  have h2 : SKept f w w2 := hk1.trans (fun _ h => .inl h) hk
  have hf' : ∀ k, f1.has k → f.has k ∨ w.heap.size ≤ k := fun k h => (hf k h).imp id fun h' => Nat.le_trans hk1.size h'
  exact ⟨f1, hA.called (by omega), hb, hf', h2.trans hf' (SKept.cell (.inl rfl) _ _)⟩
end Go.Proofs.Ytdmnhgbdeifpbaa
