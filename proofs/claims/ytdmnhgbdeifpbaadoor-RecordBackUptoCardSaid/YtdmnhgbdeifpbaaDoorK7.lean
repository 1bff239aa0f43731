/-
  Part 7 of 33 of what the proof leans on.
-/
import Derived.Test.YtdmnhgbdeifpbaaDoorK4
namespace Go.Proofs.YtdmnhgbdeifpbaaDoor
open Go.RowKit
theorem grown_refl (w : World) (b : Option Nat) : w.grownBy w b := ⟨rfl, rfl, rfl, Nat.le_refl _, fun _ _ _ => rfl⟩
def badB (i c : Nat) : Bool := decide ((c = 0 ∧ 0 < i) ∨ (i = 9 ∧ 1 < c))
theorem rdW_cons (n i acc : Nat) (c : BitVec 8) (r : List (BitVec 8)) : rdW (n + 1) i acc (c :: r) =
    if badB i c.toNat then (11, 0, []) else if c.toNat < 128 then (0, acc + c.toNat % 128 * 128 ^ i, r) else rdW n (i + 1) (acc + c.toNat % 128 * 128 ^ i) r := by
  simp only [rdW, badB, decide_eq_true_eq]
theorem tapeWord_ok {t : TapeL} {v : Nat} {r : List (BitVec 8)} (h0 : t.e = 0) (h : rdW 10 0 0 t.s = (0, v, r)) : t.word = (v, ⟨r, 0⟩) := by
  rw [TapeL.word, if_neg (by simp [h0]), h, if_pos rfl]
end Go.Proofs.YtdmnhgbdeifpbaaDoor
namespace Go.Proofs.YtdmnhgbdeifpbaaDoor
open Go.RowKit
theorem run_conv_u64_i64n (w : World) (n : Nat) (h : n < 9223372036854775808) : (convert 95 3 (.int .u64 (n : Int))).run Tryd.prog w = .ok (.int .i64 (n : Int)) w := by
  have : IntKind.i64.wrap (n : Int) = n := IntWalk.i64_in _ (by omega)
  simp [convert, Conv.intToInt, run_underlying Tryd.underlying3, run_underlying Tryd.underlying95, this]
end Go.Proofs.YtdmnhgbdeifpbaaDoor
