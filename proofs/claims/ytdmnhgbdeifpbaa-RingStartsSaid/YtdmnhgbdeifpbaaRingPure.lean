/-
  Layer 15's words as plain functions: right rings, blocks of places, starts of runs, room; and what they keep to: no program here.
-/
import Derived.Test.YtdmnhgbdeifpbaaProg
namespace Go.Proofs.Ytdmnhgbdeifpbaa
open Go

def rgParts (f l : Int) : Prop := 0 ≤ f ∧ f ≤ 4096 ∧ 1 ≤ l ∧ l ≤ 4096
def rgPlace (v : Int) : Prop := 0 ≤ v ∧ v ≤ 1125899906842624
instance (f l : Int) : Decidable (rgParts f l) := by unfold rgParts; infer_instance
instance (v : Int) : Decidable (rgPlace v) := by unfold rgPlace; infer_instance
def rgRight (f l b : Int) : Prop := rgParts f l ∧ f + l ≤ b
instance (f l b : Int) : Decidable (rgRight f l b) := by unfold rgRight; infer_instance
def rgBlock (f l v : Int) : Int := if rgParts f l ∧ rgPlace v then f + v % l else -1
def rgStart (f l v n : Int) : Int :=
  if rgParts f l ∧ rgPlace v ∧ 1 ≤ n ∧ n ≤ l then (if v % l + n ≤ l then v else v - v % l + l) else -1
def rgRoom (f l low v n : Int) : Prop := rgStart f l v n ≠ -1 ∧ 0 ≤ low ∧ low ≤ v ∧ rgStart f l v n + n ≤ low + l
instance (f l low v n : Int) : Decidable (rgRoom f l low v n) := by unfold rgRoom; infer_instance
/-- A run of n blocks begins just at v, on a ring of so many blocks. -/
def rgBegins (f l b v n : Int) : Prop := rgRight f l b ∧ rgPlace v ∧ rgStart f l v n = v
instance (f l b v n : Int) : Decidable (rgBegins f l b v n) := by unfold rgBegins; infer_instance

theorem mod_bounds {v l : Int} (hl : 1 ≤ l) : 0 ≤ v % l ∧ v % l < l := ⟨Int.emod_nonneg _ (by omega), Int.emod_lt_of_pos _ (by omega)⟩
/-- The rest of a place a little farther on. -/
theorem mod_step {v l i : Int} (h0 : 0 ≤ i) (h : v % l + i < l) (hl : 1 ≤ l) : (v + i) % l = v % l + i := by
  have hb := mod_bounds (v := v) hl
  have e : v + i = (v % l + i) + l * (v / l) := by
    have := Int.emod_add_mul_ediv v l
    omega
  rw [e, Int.add_mul_emod_self_left, Int.emod_eq_of_lt (by omega) h]
theorem mod_next {v l : Int} (_hl : 1 ≤ l) : (v - v % l + l) % l = 0 := by
  have e : v - v % l + l = 0 + l * (v / l + 1) := by
    have := Int.emod_add_mul_ediv v l
    rw [Int.mul_add]
    omega
  rw [e, Int.add_mul_emod_self_left]
  exact Int.zero_emod l
theorem rgStart_bounds {f l v n : Int} (h : rgStart f l v n ≠ -1) : rgParts f l ∧ rgPlace v ∧ 1 ≤ n ∧ n ≤ l ∧ v ≤ rgStart f l v n ∧ rgStart f l v n - v < n ∧ (rgStart f l v n) % l + n ≤ l := by
  unfold rgStart at h ⊢
  split at h
  · rename_i hc
    obtain ⟨h1, h2, h3, h4⟩ := hc
    rw [if_pos ⟨h1, h2, h3, h4⟩]
    have hl : 1 ≤ l := h1.2.2.1
    have hb := mod_bounds (v := v) hl
    split
    · exact ⟨h1, h2, h3, h4, Int.le_refl _, by omega, by assumption⟩
    · refine ⟨h1, h2, h3, h4, by omega, by omega, ?_⟩
      rw [mod_next hl]
      omega
  · exact absurd rfl h
/-- A run's start is the first place from v on at which it doesn't go over the end. -/
theorem rgStart_first {f l v n k : Int} (h : rgStart f l v n ≠ -1) (h1 : v ≤ k) (h2 : k ≤ rgStart f l v n) : k % l ≤ l - n ↔ k = rgStart f l v n := by
  obtain ⟨hp, hv, hn1, hn2, ha, hb, hc⟩ := rgStart_bounds h
  have hl : 1 ≤ l := hp.2.2.1
  constructor
  · intro hk
    by_cases he : k = rgStart f l v n
    · exact he
    · exfalso
      have hs : rgStart f l v n = if v % l + n ≤ l then v else v - v % l + l := by
        unfold rgStart
        rw [if_pos ⟨hp, hv, hn1, hn2⟩]
      rw [hs] at h2 he
      have hm := mod_bounds (v := v) hl
      split at h2
      · rename_i h3
        rw [if_pos h3] at he
        omega
      · rename_i h3
        rw [if_neg h3] at he
        have e := mod_step (v := v) (l := l) (i := k - v) (by omega) (by omega) hl
        rw [show v + (k - v) = k by omega] at e
        omega
  · rintro rfl
    omega
theorem rgStart_nonneg {f l v n : Int} (h : rgStart f l v n ≠ -1) : 0 ≤ rgStart f l v n := by
  have hb := rgStart_bounds h
  have := hb.2.1.1
  omega
theorem rgStart_neg {f l v n : Int} (h : rgStart f l v n < 0) : rgStart f l v n = -1 := by
  by_cases h1 : rgStart f l v n = -1
  · exact h1
  · have := rgStart_nonneg h1
    omega
/-- The document's own way to say where a run begins. -/
theorem rgStart_doc (f l v n : Int) : rgStart f l v n = if rgParts f l ∧ rgPlace v ∧ 1 ≤ n ∧ n ≤ l then (if v / l = (v + n - 1) / l then v else ((v + n - 1) / l) * l) else -1 := by
  unfold rgStart
  split
  · rename_i hc
    obtain ⟨hp, hv, hn1, hn2⟩ := hc
    have hl : 1 ≤ l := hp.2.2.1
    have hm := mod_bounds (v := v) hl
    have hd := Int.emod_add_mul_ediv v l
    by_cases h : v % l + n ≤ l
    · have e : (v + n - 1) / l = v / l := by
        rw [show v + n - 1 = (v % l + n - 1) + l * (v / l) by omega, Int.add_mul_ediv_left _ _ (by omega), Int.ediv_eq_zero_of_lt (by omega) (by omega)]
        omega
      rw [if_pos h, e, if_pos rfl]
    · have e : (v + n - 1) / l = v / l + 1 := by
        rw [show v + n - 1 = (v % l + n - 1 - l) + l * (v / l + 1) by rw [Int.mul_add]; omega, Int.add_mul_ediv_left _ _ (by omega), Int.ediv_eq_zero_of_lt (by omega) (by omega)]
        omega
      rw [if_neg h, e, if_neg (by omega), Int.add_mul, Int.mul_comm (v / l) l]
      omega
  · rfl
theorem rgBlock_at {f l v : Int} (hp : rgParts f l) (hv : rgPlace v) : rgBlock f l v = f + v % l := by
  unfold rgBlock
  rw [if_pos ⟨hp, hv⟩]
/-- Two places of one lap that lie on one block are one place. -/
theorem same_lap {l p q low : Int} (hl : 1 ≤ l) (hp : low ≤ p ∧ p < low + l) (hq : low ≤ q ∧ q < low + l) (h : p % l = q % l) : p = q := by
  have h1 := Int.emod_add_mul_ediv p l
  have h2 := Int.emod_add_mul_ediv q l
  have h3 : l * (p / l) - l * (q / l) = p - q := by omega
  rw [← Int.mul_sub] at h3
  have h4 : p / l - q / l = 0 := by
    rcases Int.lt_trichotomy (p / l - q / l) 0 with h5 | h5 | h5
    · have : l * (p / l - q / l) ≤ l * (-1) := Int.mul_le_mul_of_nonneg_left (by omega) (by omega)
      omega
    · exact h5
    · have : l * 1 ≤ l * (p / l - q / l) := Int.mul_le_mul_of_nonneg_left (by omega) (by omega)
      omega
  rw [h4, Int.mul_zero] at h3
  omega
end Go.Proofs.Ytdmnhgbdeifpbaa
