/-
  The contract of package event's Get: an item off a reader, as the document's tape tells it.
-/
import Derived.Test.YteoolfifpmbkeaaDoorEventName
import Derived.Test.YteoolfifpmbkeaaDoorReadMore
import Derived.Test.YteoolfifpmbkeaaDoorLocal
import Derived.Test.YteoolfifpmbkeaaDoorCoreBase
namespace Go.Proofs.YteoolfifpmbkeaaDoor
open Go Go.RowKit

def zeroI : ItemL := ⟨0, [], 0, 0⟩
/-- What an item's bytes tell, ahead of the last test. -/
def TapeL.item0 (t : TapeL) : ItemL × TapeL :=
  if (t.number 9223372036854775807).1 = 1 then
    (⟨1, ((t.number 9223372036854775807).2.text 16).1, (((t.number 9223372036854775807).2.text 16).2.number 1099511627776).1, ((((t.number 9223372036854775807).2.text 16).2.number 1099511627776).2.signed).1⟩,
      ((((t.number 9223372036854775807).2.text 16).2.number 1099511627776).2.signed).2)
  else if (t.number 9223372036854775807).1 = 2 then (⟨2, [], ((t.number 9223372036854775807).2.number 1099511627776).1, 0⟩, ((t.number 9223372036854775807).2.number 1099511627776).2)
  else (⟨(t.number 9223372036854775807).1, [], 0, 0⟩, (t.number 9223372036854775807).2)
def TapeL.last (x : ItemL) (t : TapeL) : TapeL := if x.rightB then t else t.fail 11
def TapeL.item (t : TapeL) : ItemL × TapeL := (if (TapeL.last t.item0.1 t.item0.2).e = 0 then t.item0.1 else zeroI, TapeL.last t.item0.1 t.item0.2)
theorem item_one (x : ItemL) : x.cells.all (·.oneCell') = true := by
  rw [Array.all_eq_true']
  intro v hv
  simp only [ItemL.cells, List.mem_toArray, List.mem_cons, List.not_mem_nil, or_false] at hv
  rcases hv with rfl | rfl | rfl | rfl <;> rfl
theorem below_gb {w w' : World} {b : Option Nat} (h : Below w.heap.size w w') : w.grownBy w' b := ⟨h.os, h.tape, h.output, h.size, fun k hk _ => h.block k hk⟩
theorem text16_len (t : TapeL) : (t.text 16).1.length ≤ 16 := by
  have hn : (t.number 16).1 ≤ 16 := by
    unfold TapeL.number
    split
    · simp
    · split
      · simp
      · rename_i h1 h2
        by_cases he : t.word.2.e = 0
        · simp only
          omega
        · have := word_err he
          simp only
          omega
  rw [text_eq]
  unfold TapeL.fixed
  split
  · simp
  · split
    · simp
    · split
      · simp
      · simp only [List.length_take]
        omega
end Go.Proofs.YteoolfifpmbkeaaDoor
