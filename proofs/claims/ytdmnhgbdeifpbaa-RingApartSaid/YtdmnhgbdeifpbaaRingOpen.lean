/-
  What comes in by a row's reading at layer 15: a ring, a number.
-/
import Derived.Test.YtdmnhgbdeifpbaaRingSmall
import Derived.Test.YtdmnhgbdeifpbaaCoreOpen
import Derived.Test.YtdmnhgbdeifpbaaRows
import Derived.ChangeSlices
import Derived.HandedShaped
import Derived.JoinedOf
import Derived.JoinedAt
import Derived.RowKit3
namespace Go.Proofs.Ytdmnhgbdeifpbaa
open Go Go.ChangeShapes Go.WideShapes Go.ChangeAt Go.WideMaps Go.WideElems Go.RowKit

theorem open_field_int {H : Type} {enc : TypeId × Value → H} {w : World} {v : Value} {y : DataW H × List MemPlace} {n : Nat} (h : DataW.trod enc Try.prog w 0 (fun _ => true) true n 3 [v] = some y) :
    ∃ k : Int, v = .int .i64 k ∧ -9223372036854775808 ≤ k ∧ k < 9223372036854775808 := by
  obtain ⟨k, hk, _, hwf⟩ := DataW.trod_int Try.underlying3 h
  simp only [List.cons.injEq, and_true] at hk
  have hmin : IntKind.i64.min = -9223372036854775808 := rfl
  have hmax : IntKind.i64.max = 9223372036854775807 := rfl
  simp only [Lit.wf, Bool.and_eq_true, decide_eq_true_eq, hmin, hmax] at hwf
  exact ⟨k, hk, by omega, by omega⟩
set_option maxRecDepth 100000 in
/-- A ring that came in as an argument. -/
theorem open_ring {H : Type} {enc : TypeId × Value → H} {w W : World} {base : Nat} {v : Value} {d : DataW H} {p : List MemPlace} (hv : Value.okWide Try.prog W .any base 23 v)
    (h : DataW.Trod enc Try.prog w 0 (fun _ => true) true 23 v d p) : ∃ f l : Int, v = rgC f l := by
  simp only [Value.okWide, Try.underlying23] at hv
  obtain ⟨cs, rfl, _⟩ := hv
  obtain ⟨hsz, hr⟩ := open_rec Try.underlying23 (by kernel_rfl) (by kernel_rfl) h
  obtain ⟨v0, y0, n0, c0, t0, _⟩ := hr 0 _ rfl
  obtain ⟨v1, y1, n1, c1, t1, _⟩ := hr 1 _ rfl
  obtain ⟨z0, rfl, _⟩ := open_field_int t0
  obtain ⟨z1, rfl, _⟩ := open_field_int t1
  refine ⟨z0, z1, ?_⟩
  obtain ⟨l⟩ := cs
  match l, (show l.length = 2 from hsz) with
  | [a, b], _ =>
    cases c0
    cases c1
    rfl
set_option maxRecDepth 100000 in
theorem okWide_i64 {W : World} {base : Nat} {v : Value} (h : Value.okWide Try.prog W .any base 3 v) : ∃ n, v = .int .i64 n ∧ -9223372036854775808 ≤ n ∧ n ≤ 9223372036854775807 := by
  simp only [Value.okWide, Try.underlying3] at h
  simp only [Cell.okWide, Try.underlying3] at h
  cases v with
  | int k n =>
    simp only [Cell.ok, Try.underlying3] at h
    obtain ⟨rfl, h1⟩ := h
    have hmin : IntKind.i64.min = -9223372036854775808 := rfl
    have hmax : IntKind.i64.max = 9223372036854775807 := rfl
    simp only [IntKind.has, hmin, hmax] at h1
    exact ⟨n, rfl, by omega, by omega⟩
  | _ => simp [Cell.ok, Try.underlying3] at h
end Go.Proofs.Ytdmnhgbdeifpbaa
