/-
  Numbers as texts: strconv.Itoa's contract in this text's own words; what such a text is.
-/
import Derived.Test.YtbfioekbahcicaaCoreBase
import Derived.Lib.LaidTab
import Derived.Lib.AppendIntMem
namespace Go.Proofs.Ytbfioekbahcicaa
open Go Go.RowKit

/-- The library's table of powers lies in a world. -/
def PowTab (w : World) : Prop := Lib.TabIs Try.prog w "internal/strconv.uint64pow10" .u64 Lib.pow10Tab
/-- A number's text. -/
def itoaL (n : Int) : List (BitVec 8) := (Lib.itoa n).map fun c => BitVec.ofNat 8 c.toNat
theorem Sv_itoa (n : Int) : (Value.string ⟨(Lib.itoa n).toArray⟩) = Sv (itoaL n) := by
  unfold Sv
  congr 1
  have : (strOf (itoaL n)).data = (Lib.itoa n).toArray := by
    rw [strOf_data, itoaL, List.map_map]
    congr 1
    have : ((fun x : BitVec 8 => UInt8.ofNat x.toNat) ∘ fun c : UInt8 => BitVec.ofNat 8 c.toNat) = id := by
      funext c
      have := c.toNat_lt
      simp
    rw [this, List.map_id]
  cases h : strOf (itoaL n) with
  | mk d =>
    rw [h] at this
    rw [← this]
/-- The digits of a number, the greatest first. -/
theorem decDigits_val (u : Nat) : ((Lib.decDigits u).foldl (fun a c => 10 * a + (c.toNat - 48)) 0 = u) ∧ (∀ c ∈ Lib.decDigits u, 48 ≤ c.toNat ∧ c.toNat ≤ 57) ∧ 0 < (Lib.decDigits u).length ∧ (10 ≤ u → ∃ c r, Lib.decDigits u = c :: r ∧ c.toNat ≠ 48) := by
  induction u using Nat.strongRecOn with
  | _ u ih =>
    rw [Lib.decDigits]
    split
    · rename_i h
      refine ⟨?_, ?_, by simp, fun h2 => by omega⟩
      · simp
        omega
      · intro c hc
        simp only [List.mem_singleton] at hc
        subst hc
        simp
        omega
    · rename_i h
      obtain ⟨h1, h2, h3, h4⟩ := ih (u / 10) (by omega)
      refine ⟨?_, ?_, by simp, fun _ => ?_⟩
      · rw [List.foldl_append, h1]
        simp
        omega
      · intro c hc
        rcases List.mem_append.1 hc with hc | hc
        · exact h2 c hc
        · simp only [List.mem_singleton] at hc
          subst hc
          simp
          omega
      · by_cases h10 : 10 ≤ u / 10
        · obtain ⟨c, r, hc, hn⟩ := h4 h10
          exact ⟨c, r ++ _, by rw [hc]; rfl, hn⟩
        · rw [Lib.decDigits, dif_pos (by omega)]
          refine ⟨_, _, rfl, ?_⟩
          simp
          omega
end Go.Proofs.Ytbfioekbahcicaa
