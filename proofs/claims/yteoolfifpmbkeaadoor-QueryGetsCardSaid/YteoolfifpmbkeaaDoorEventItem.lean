/-
  The contract of package event's item: the item that words are about.
-/
import Derived.Test.YteoolfifpmbkeaaDoorEventNumber
import Derived.Test.YteoolfifpmbkeaaDoorEventGet
import Derived.Test.YteoolfifpmbkeaaDoorItems
namespace Go.Proofs.YteoolfifpmbkeaaDoor
open Go Go.RowKit

def wEvent : List (BitVec 8) := [101, 118, 101, 110, 116]
def wMark : List (BitVec 8) := [109, 97, 114, 107]
def itemW (ws : List (List (BitVec 8))) : ItemL :=
  match ws with
  | [a, b, c, d] => if a = wEvent then ⟨1, b, numL c, numL d⟩ else zeroI
  | [a, b] => if a = wMark then ⟨2, [], numL b, 0⟩ else zeroI
  | _ => zeroI
/-- Words that lie at a block. -/
def WordsAt (w : World) (g : Nat) (ws : List (List (BitVec 8))) : Prop := ∀ j x, ws[j]? = some x → w.cell? ⟨g, j, none⟩ = some (Sv x)
theorem itemW_none (ws : List (List (BitVec 8))) (h1 : ¬ (ws[0]? = some wEvent ∧ ws.length = 4)) (h2 : ¬ (ws[0]? = some wMark ∧ ws.length = 2)) : itemW ws = zeroI := by
  unfold itemW
  split
  · rw [if_neg fun e => h1 ⟨by simp [e], rfl⟩]
  · rw [if_neg fun e => h2 ⟨by simp [e], rfl⟩]
  · rfl
theorem ErrsIn.below {w w' : World} (h : ErrsIn w) (hB : Below w.heap.size w w') : ErrsIn w' := fun g hg => by
  obtain ⟨ev, h1, h2⟩ := h g hg
  exact ⟨ev, (hB.cell (block_lt_of_cell h1)).trans h1, h2⟩
end Go.Proofs.YteoolfifpmbkeaaDoor
