/-
  Part 11 of 33 of what the proof leans on.
-/
import Derived.Test.YtdmnhgbdeifpbaaDoorK6
import Derived.Test.YtdmnhgbdeifpbaaDoorK8
import Derived.Test.YtdmnhgbdeifpbaaDoorK9
import Derived.Test.YtdmnhgbdeifpbaaDoorK1
namespace Go.Proofs.YtdmnhgbdeifpbaaDoor
open Go Go.ChangeShapes Go.WideShapes Go.ChangeAt Go.WideMaps Go.WideElems Go.RowKit
end Go.Proofs.YtdmnhgbdeifpbaaDoor
namespace Go.Proofs.YtdmnhgbdeifpbaaDoor
open Go Go.RowKit
theorem back_word (k : Nat) (hk : k < 18446744073709551616) (r : List (BitVec 8)) : (TapeL.mk (wordL k ++ r) 0).word = (k, ⟨r, 0⟩) := tapeWord_ok rfl (rdW_wordL k r hk)
theorem back_number (k : Nat) (most : Int) (hk : k < 9223372036854775808) (hm : (k : Int) ≤ most) (r : List (BitVec 8)) : (TapeL.mk (wordL k ++ r) 0).number most = ((k : Int), ⟨r, 0⟩) := by
  rw [TapeL.number, back_word k (by omega) r]
  simp only
  rw [if_neg (by omega), if_neg (by omega)]
theorem back_signed (n : Int) (h1 : -9223372036854775808 ≤ n) (h2 : n < 9223372036854775808) (r : List (BitVec 8)) : (TapeL.mk (signedL n ++ r) 0).signed = (n, ⟨r, 0⟩) := by
  rw [TapeL.signed, signedL, back_word (zig n) (zig_lt n h1 h2) r]
  simp only [zag_zig]
theorem back_fixed (m r : List (BitVec 8)) : (TapeL.mk (m ++ r) 0).fixed (m.length : Int) = (m, ⟨r, 0⟩) := by
  rw [fixed_good (by simp) (fun h => absurd rfl h)]
  simp
end Go.Proofs.YtdmnhgbdeifpbaaDoor
namespace Go.Proofs.YtdmnhgbdeifpbaaDoor
open Go Go.ChangeShapes Go.WideShapes Go.ChangeAt Go.WideMaps Go.WideElems Go.RowKit
end Go.Proofs.YtdmnhgbdeifpbaaDoor
namespace Go.Proofs.YtdmnhgbdeifpbaaDoor
open Go Go.RowKit
end Go.Proofs.YtdmnhgbdeifpbaaDoor
