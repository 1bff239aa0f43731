/-
  The contracts of the reference's Word, Number, Signed, Text.
-/
import Derived.Test.YtbfioekbahcicaaPenPure
import Derived.Test.YtbfioekbahcicaaCoreBase
namespace Go.Proofs.Ytbfioekbahcicaa
open Go.RowKit

def WordRel (w0 : World) (W0 : Nat) (v s : Value) (wr : World) : Prop :=
  ∃ (n x : Nat) (p : List (BitVec 8)), n + 1 ≤ 10 ∧ x < 128 ^ (n + 1) ∧ x < 18446744073709551616 ∧ v = .int .u64 (x : Int) ∧ s = Sv p ∧ p ++ wordF (n + 1) x = wordL W0 ∧ p.length + n ≤ 10 ∧ Below w0.heap.size w0 wr
theorem wrapU64 (n : Nat) (h : n < 18446744073709551616) : IntKind.u64.wrap (n : Int) = n := IntWalk.u64_in _ (by omega)
theorem u64_sum (a b : Nat) (h : a + b < 18446744073709551616) : IntKind.u64.wrap ((a : Int) + (b : Int)) = ((a + b : Nat) : Int) := by
  rw [← Int.natCast_add]
  exact wrapU64 _ h

theorem run_conv_i64_u64n (w : World) (n : Nat) (h : n < 9223372036854775808) : (convert 3 68 (.int .i64 (n : Int))).run Try.prog w = .ok (.int .u64 (n : Int)) w := by
  simp [convert, Conv.intToInt, run_underlying Try.underlying3, run_underlying Try.underlying68, wrapU64 n (by omega)]

end Go.Proofs.Ytbfioekbahcicaa
