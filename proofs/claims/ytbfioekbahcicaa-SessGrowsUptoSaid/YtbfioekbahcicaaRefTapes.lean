/-
  The contracts of the reference's Tape.
  The contracts of the reference's Tape: Number, Signed, Fixed, Text, End.
-/
import Derived.Test.YtbfioekbahcicaaRefPen
namespace Go.Proofs.Ytbfioekbahcicaa
open Go.RowKit

theorem grown_refl (w : World) (b : Option Nat) : w.grownBy w b := ⟨rfl, rfl, rfl, Nat.le_refl _, fun _ _ _ => rfl⟩

def badB (i c : Nat) : Bool := decide ((c = 0 ∧ 0 < i) ∨ (i = 9 ∧ 1 < c))
def BadCut (bad : Bool) (i x : Nat) (W1 : World) (si sx s : Value) (wx : World) : Prop := si = .int .i64 (i : Int) ∧ sx = .int .u64 (x : Int) ∧ s = .bool bad ∧ wx = W1
theorem rdW_cons (n i acc : Nat) (c : BitVec 8) (r : List (BitVec 8)) : rdW (n + 1) i acc (c :: r) =
    if badB i c.toNat then (11, 0, []) else if c.toNat < 128 then (0, acc + c.toNat % 128 * 128 ^ i, r) else rdW n (i + 1) (acc + c.toNat % 128 * 128 ^ i) r := by
  simp only [rdW, badB, decide_eq_true_eq]
theorem run_conv_B_u64 (w : World) (c : BitVec 8) : (convert 5 68 (B c)).run Try.prog w = .ok (.int .u64 (c.toNat : Int)) w := by
  have := c.isLt
  simp [convert, B, Conv.intToInt, run_underlying Try.underlying5, run_underlying Try.underlying68, wrapU64 c.toNat (by omega)]
theorem tapeWord_err {t : TapeL} {k : Nat} {v : Nat} {r : List (BitVec 8)} (h0 : t.e = 0) (h : rdW 10 0 0 t.s = (k, v, r)) (hk : k ≠ 0) : t.word = (0, ⟨[], (k : Int)⟩) := by
  rw [TapeL.word, if_neg (by simp [h0]), h, if_neg hk, TapeL.fail, if_pos ⟨h0, by omega⟩]
theorem tapeWord_ok {t : TapeL} {v : Nat} {r : List (BitVec 8)} (h0 : t.e = 0) (h : rdW 10 0 0 t.s = (0, v, r)) : t.word = (v, ⟨r, 0⟩) := by
  rw [TapeL.word, if_neg (by simp [h0]), h, if_pos rfl]

end Go.Proofs.Ytbfioekbahcicaa
namespace Go.Proofs.Ytbfioekbahcicaa
open Go.RowKit

theorem run_conv_u64_i64n (w : World) (n : Nat) (h : n < 9223372036854775808) : (convert 68 3 (.int .u64 (n : Int))).run Try.prog w = .ok (.int .i64 (n : Int)) w := by
  have : IntKind.i64.wrap (n : Int) = n := IntWalk.i64_in _ (by omega)
  simp [convert, Conv.intToInt, run_underlying Try.underlying3, run_underlying Try.underlying68, this]

end Go.Proofs.Ytbfioekbahcicaa
