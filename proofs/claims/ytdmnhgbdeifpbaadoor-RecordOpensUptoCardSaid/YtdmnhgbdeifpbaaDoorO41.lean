/-
  Part 41 of 42 of what the proof leans on.
-/
import Derived.Test.YtdmnhgbdeifpbaaDoorO2
import Derived.Test.YtdmnhgbdeifpbaaDoorO13
import Derived.Test.YtdmnhgbdeifpbaaDoorO15
import Derived.ProofKit
import Derived.OpenShut
import Derived.ChangeOld
import Derived.LaidMore
import Derived.Stop.Joined
import Derived.Stop.LaidErr
import Derived.Lib.LaidTab
import Derived.SizedLaws
import Derived.Test.YtdmnhgbdeifpbaaDoorO9
namespace Go.Proofs.YtdmnhgbdeifpbaaDoor
open Go Go.ChangeShapes Go.WideShapes Go.ChangeAt Go.WideMaps Go.WideElems Go.RowKit
theorem gFirst : Tryd.prog.globalNamed "waterclock/sha.first" = some 0 := by kernel_rfl
theorem gRoots : Tryd.prog.globalNamed "waterclock/sha.roots" = some 1 := by kernel_rfl
theorem tFirst : (Tryd.prog.globals[0]?).map (·.type) = some 106 := by kernel_rfl
theorem tRoots : (Tryd.prog.globals[1]?).map (·.type) = some 132 := by kernel_rfl
theorem cells32 : Tryd.prog.cellsOf 105 = 1 := by kernel_rfl
theorem cellsFirst : Tryd.prog.cellsOf 106 = 8 := by kernel_rfl
theorem cellsRoots : Tryd.prog.cellsOf 132 = 64 := by kernel_rfl
def nums (l : List (BitVec 32)) : List Int := l.map fun x => (x.toNat : Int)
def laid2 : List (String × DataW Unit) := [("waterclock/sha.first", Lib.tabData .u32 (nums firstSt.ws)), ("waterclock/sha.roots", Lib.tabData .u32 (nums kTable))]
theorem laid2_is : ([("waterclock/sha.first", Rows.laid_waterclock_sha_first), ("waterclock/sha.roots", Rows.laid_waterclock_sha_roots)] : List (String × DataW Unit)) = laid2 := by kernel_rfl
theorem nums_at (l : List (BitVec 32)) (i : Nat) (h : i < l.length) : Value.int .u32 ((nums l).getD i 0) = W (l.getD i 0) := by
  simp [nums, W, h]
theorem tables_of_laid {w : World} (h : laidMetH Tryd.prog [("waterclock/sha.first", Rows.laid_waterclock_sha_first), ("waterclock/sha.roots", Rows.laid_waterclock_sha_roots)] w) :
    Tables w ∧ 0 < w.heap.size ∧ 1 < w.heap.size := by
  rw [laid2_is, MakeChecks.laidMetH_plain _ _ _ (by kernel_rfl)] at h
  have h1 := Lib.tabIs_of_head gFirst tFirst Tryd.underlying106 Tryd.underlying105 cells32 cellsFirst h; have h2 := Lib.tabIs_of_head gRoots tRoots Tryd.underlying132 Tryd.underlying105 cells32 cellsRoots h.tail
  have c1 : ∀ i < 8, w.cell? ⟨0, i, none⟩ = some (W (firstSt.at i)) := fun i hi => by
    rw [h1.cell gFirst i (by simpa [nums, St.ws] using hi), nums_at _ _ (by simpa [St.ws] using hi)]
    rfl
  have c2 : ∀ i < 64, w.cell? ⟨1, i, none⟩ = some (W (kAt i)) := fun i hi => by
    have hl : kTable.length = 64 := rfl
    rw [h2.cell gRoots i (by simpa [nums, hl] using hi), nums_at _ _ (by rw [hl]; exact hi)]
    rfl
  exact ⟨⟨c1, c2⟩, block_lt_of_cell (c1 0 (by omega)), block_lt_of_cell (c2 0 (by omega))⟩
theorem door_met (os : Os) (args : Array Value) : laidMetH Tryd.prog [("waterclock/sha.first", Rows.laid_waterclock_sha_first), ("waterclock/sha.roots", Rows.laid_waterclock_sha_roots)] ((World.doorLaid Tryd.prog 19 os).forCall (fun _ _ => 0) ⟨#[], args, []⟩).memory :=
  laidMetH_of_parts3 (fuel := 8) (laidMet_of_run' 8 (by kernel_rfl) (by kernel_rfl)) (by kernel_rfl) (by kernel_rfl)
end Go.Proofs.YtdmnhgbdeifpbaaDoor
