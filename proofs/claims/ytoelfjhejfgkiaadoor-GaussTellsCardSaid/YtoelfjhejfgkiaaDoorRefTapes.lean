/-
  The contracts of the reference's Tape: Number, Signed, Fixed, Text, End.
-/
import Derived.Test.YtoelfjhejfgkiaaDoorRefTape
namespace Go.Proofs.YtoelfjhejfgkiaaDoor
open Go.RowKit

theorem run_conv_u64_i64n (w : World) (n : Nat) (h : n < 9223372036854775808) : (convert 79 3 (.int .u64 (n : Int))).run Tryd.prog w = .ok (.int .i64 (n : Int)) w := by
  have : IntKind.i64.wrap (n : Int) = n := IntWalk.i64_in _ (by omega)
  simp [convert, Conv.intToInt, run_underlying Tryd.underlying3, run_underlying Tryd.underlying79, this]

end Go.Proofs.YtoelfjhejfgkiaaDoor
