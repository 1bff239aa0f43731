/-
  Part 11 of 42 of what the proof leans on.
-/
import Derived.Test.YtdmnhgbdeifpbaaDoorO6
import Derived.Test.YtdmnhgbdeifpbaaDoorO8
import Derived.Test.YtdmnhgbdeifpbaaDoorO9
import Derived.Test.YtdmnhgbdeifpbaaDoorO1
namespace Go.Proofs.YtdmnhgbdeifpbaaDoor
open Go Go.ChangeShapes Go.WideShapes Go.ChangeAt Go.WideMaps Go.WideElems Go.RowKit
theorem open_arg {H : Type} {enc : TypeId × Value → H} {w : World} {a : Option Addr} {len cap : Nat} {d : DataW H} {p : List MemPlace}
    (h : DataW.Trod enc Tryd.prog w 0 (fun _ => true) true 26 (.slice a len cap) d p) :
    ∃ m : List (BitVec 8), m.length = len ∧ SrcP w a m.length m ∧ len ≤ cap ∧ cap ≤ 9223372036854775807 ∧ (a = none → cap = 0) := by
  obtain ⟨fuel, hf⟩ := h
  rcases open_ints Tryd.underlying26 Tryd.underlying5 (by kernel_rfl) hf with ⟨hcs, _⟩ | ⟨x, l, c, zs, hcs, _, hl, hm, hz, hx, hcell, hwz⟩
  · simp [Value.cells] at hcs; obtain ⟨rfl, rfl, rfl⟩ := hcs; exact ⟨[], rfl, .inl rfl, Nat.le_refl _, Nat.zero_le _, fun _ => rfl⟩
  · simp [Value.cells] at hcs; obtain ⟨rfl, rfl, rfl⟩ := hcs
    obtain ⟨m, hm1, hm2⟩ := src_of_ints (w := w) (a := some x) (len := len) (cap := cap) (zs := zs) (.inr ⟨x, rfl, hl, by simpa using hz, hcell, hwz⟩)
    have hml : maxLen ≤ 9223372036854775807 := by unfold maxLen; omega
    exact ⟨m, hm1, hm2, hl, Nat.le_trans hm hml, fun h => by cases h⟩
end Go.Proofs.YtdmnhgbdeifpbaaDoor
namespace Go.Proofs.YtdmnhgbdeifpbaaDoor
open Go Go.RowKit
theorem back_word (k : Nat) (hk : k < 18446744073709551616) (r : List (BitVec 8)) : (TapeL.mk (wordL k ++ r) 0).word = (k, ⟨r, 0⟩) := tapeWord_ok rfl (rdW_wordL k r hk)
theorem back_number (k : Nat) (most : Int) (hk : k < 9223372036854775808) (hm : (k : Int) ≤ most) (r : List (BitVec 8)) : (TapeL.mk (wordL k ++ r) 0).number most = ((k : Int), ⟨r, 0⟩) := by
  rw [TapeL.number, back_word k (by omega) r]
  simp only
  rw [if_neg (by omega), if_neg (by omega)]
theorem back_signed (n : Int) (h1 : -9223372036854775808 ≤ n) (h2 : n < 9223372036854775808) (r : List (BitVec 8)) : (TapeL.mk (signedL n ++ r) 0).signed = (n, ⟨r, 0⟩) := by
  rw [TapeL.signed, signedL, back_word (zig n) (zig_lt n h1 h2) r]; simp only [zag_zig]
theorem back_fixed (m r : List (BitVec 8)) : (TapeL.mk (m ++ r) 0).fixed (m.length : Int) = (m, ⟨r, 0⟩) := by
  rw [fixed_good (by simp) (fun h => absurd rfl h)]
  simp
end Go.Proofs.YtdmnhgbdeifpbaaDoor
namespace Go.Proofs.YtdmnhgbdeifpbaaDoor
open Go Go.ChangeShapes Go.WideShapes Go.ChangeAt Go.WideMaps Go.WideElems Go.RowKit
end Go.Proofs.YtdmnhgbdeifpbaaDoor
namespace Go.Proofs.YtdmnhgbdeifpbaaDoor
open Go Go.RowKit
end Go.Proofs.YtdmnhgbdeifpbaaDoor
