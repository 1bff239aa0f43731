/-
  Part 4 of 33 of what the proof leans on.
-/
import Derived.Test.YtdmnhgbdeifpbaaDoorK2
namespace Go.Proofs.YtdmnhgbdeifpbaaDoor
open Go.RowKit
theorem wrapU64 (n : Nat) (h : n < 18446744073709551616) : IntKind.u64.wrap (n : Int) = n := IntWalk.u64_in _ (by omega)
theorem run_conv_i64_u64n (w : World) (n : Nat) (h : n < 9223372036854775808) : (convert 3 95 (.int .i64 (n : Int))).run Tryd.prog w = .ok (.int .u64 (n : Int)) w := by
  simp [convert, Conv.intToInt, run_underlying Tryd.underlying3, run_underlying Tryd.underlying95, wrapU64 n (by omega)]
end Go.Proofs.YtdmnhgbdeifpbaaDoor
