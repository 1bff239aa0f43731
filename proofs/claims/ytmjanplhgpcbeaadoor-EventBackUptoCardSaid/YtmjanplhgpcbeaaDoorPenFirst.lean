/-
  The contract of the law's 'first'.
-/
import Derived.Test.YtmjanplhgpcbeaaDoorPenPen
import Derived.Test.YtmjanplhgpcbeaaDoorReadMore
import Derived.Test.YtmjanplhgpcbeaaDoorRegOps
namespace Go.Proofs.YtmjanplhgpcbeaaDoor
open Go Go.RowKit

def L7 : List (BitVec 8) := [172, 2, 1, 2, 97, 98, 99]
def M2 : List (BitVec 8) := [97, 98]
def M1 : List (BitVec 8) := [99]
theorem first_l1 : wordL 300 = [172, 2] := by decide +kernel
theorem first_l2 : signedL (-1) = [1] := by decide +kernel
theorem first_l3 : textL [97, 98] = [2, 97, 98] := by decide +kernel
def T0 : TapeL := ⟨L7, 0⟩
def T1 : TapeL := ⟨[1, 2, 97, 98, 99], 0⟩
def T2 : TapeL := ⟨[2, 97, 98, 99], 0⟩
def T3 : TapeL := ⟨[99], 0⟩
def T4 : TapeL := ⟨[], 0⟩
def U0 : TapeL := ⟨[128], 0⟩
def U1 : TapeL := ⟨[], 10⟩
theorem first_t1 : T0.number 300 = (300, T1) := by kernel_rfl
theorem first_t2 : T1.signed = (-1, T2) := by kernel_rfl
theorem first_t3 : T2.text 2 = ([97, 98], T3) := by kernel_rfl
theorem first_t4 : T3.fixed 1 = ([99], T4) := by kernel_rfl
theorem first_u1 : U0.number 9 = (0, U1) := by kernel_rfl
theorem first_u2 : U1.number 9 = (0, U1) := by kernel_rfl
end Go.Proofs.YtmjanplhgpcbeaaDoor
