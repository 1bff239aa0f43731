/-
  A time's windows, plain: each is right and has the time; they rise; how many they are.
-/
import Derived.Test.YtbfioekbahcicaaWinsPure
namespace Go.Proofs.Ytbfioekbahcicaa
open Go Go.RowKit

theorem winAt_good {q : QueryL} (h : q.rightB = true) {key : List (BitVec 8)} (hk : nameB key = true) {t k : Int} (h0 : 0 ≤ t) (h1 : t ≤ 1099511627776) (hk0 : loK q t ≤ k) (hk1 : k ≤ t / stepQ q) :
    (winAt q key k).rightB = true ∧ (winAt q key k).lo ≤ t ∧ t < (winAt q key k).hi ∧ (winAt q key k).hi ≤ 1100585369600 := by
  obtain ⟨s1, s2, s3, s4, s5⟩ := stepQ_pos h
  obtain ⟨b1, b2, b3⟩ := loK_bd h h0
  have hp0 : 0 ≤ k * stepQ q := Int.mul_nonneg (by omega) (by omega)
  have hp1 : k * stepQ q ≤ t / stepQ q * stepQ q := Int.mul_le_mul_of_nonneg_right hk1 (by omega)
  have hp2 : t / stepQ q * stepQ q ≤ t := Int.ediv_mul_le _ (by omega)
  have hin := (loK_spec h (t := t) k (by omega)).2 hk0
  refine ⟨?_, ?_, hin, ?_⟩
  · unfold WindowL.rightB winAt
    simp only [hk, Bool.true_and, decide_eq_true_eq]
    omega
  · show k * stepQ q ≤ t
    omega
  · show k * stepQ q + q.size ≤ 1100585369600
    omega
theorem ofW_good {q : QueryL} {key : List (BitVec 8)} {t : Int} {x : WindowL} (hx : x ∈ ofW q key t) : q.rightB = true ∧ x.rightB = true ∧ x.lo ≤ t ∧ t < x.hi ∧ x.hi ≤ 1100585369600 ∧ x.key = key := by
  unfold ofW at hx
  split at hx
  · rename_i hok
    simp only [okAsk, Bool.and_eq_true, decide_eq_true_eq] at hok
    obtain ⟨⟨hr, hn⟩, h0, h1⟩ := hok
    obtain ⟨s1, s2, s3, s4, s5⟩ := stepQ_pos hr
    split at hx
    · rw [List.mem_singleton.1 hx]
      refine ⟨hr, ?_, Int.le_refl _, ?_, ?_, rfl⟩
      · unfold WindowL.rightB
        simp only [hn, Bool.true_and, decide_eq_true_eq]
        omega
      · show t < t + q.size
        omega
      · show t + q.size ≤ 1100585369600
        omega
    · obtain ⟨i, hi, rfl⟩ := List.mem_map.1 hx
      have hi' := List.mem_range.1 hi
      obtain ⟨b1, b2, b3⟩ := loK_bd hr h0
      obtain ⟨g1, g2, g3, g4⟩ := winAt_good hr hn h0 h1 (k := loK q t + (i : Int)) (by omega) (by omega)
      exact ⟨hr, g1, g2, g3, g4, rfl⟩
  · simp at hx
theorem ofW_step {q : QueryL} {key : List (BitVec 8)} {t : Int} {i : Nat} {x y : WindowL} (hx : (ofW q key t)[i]? = some x) (hy : (ofW q key t)[i + 1]? = some y) : x.hi < y.hi ∧ y.lo = x.lo + stepQ q ∧ y.hi = x.hi + stepQ q := by
  unfold ofW at hx hy
  split at hx
  · rename_i hok
    simp only [okAsk, Bool.and_eq_true, decide_eq_true_eq] at hok
    rw [if_pos (by simp only [okAsk, Bool.and_eq_true, decide_eq_true_eq]; exact hok)] at hy
    obtain ⟨s1, s2, s3, s4, s5⟩ := stepQ_pos hok.1.1
    split at hx
    · rename_i h3
      rw [if_pos h3] at hy
      simp at hy
    · rename_i h3
      rw [if_neg h3] at hy
      have hl := (List.getElem?_eq_some_iff.1 hy).1
      rw [runW_length] at hl
      rw [runW_at _ _ _ _ _ (by omega)] at hx
      rw [runW_at _ _ _ _ _ hl] at hy
      cases hx
      cases hy
      have e : (loK q t + ((i + 1 : Nat) : Int)) * stepQ q = (loK q t + (i : Int)) * stepQ q + stepQ q := by
        rw [show loK q t + ((i + 1 : Nat) : Int) = (loK q t + (i : Int)) + 1 by omega, Int.add_mul, Int.one_mul]
      show (loK q t + (i : Int)) * stepQ q + q.size < (loK q t + ((i + 1 : Nat) : Int)) * stepQ q + q.size ∧ (loK q t + ((i + 1 : Nat) : Int)) * stepQ q = (loK q t + (i : Int)) * stepQ q + stepQ q ∧ (loK q t + ((i + 1 : Nat) : Int)) * stepQ q + q.size = (loK q t + (i : Int)) * stepQ q + q.size + stepQ q
      rw [e]
      omega
  · simp at hx
theorem bytesW_len {x : WindowL} (h : x.rightB = true) : x.bytes.length ≤ 100 := by
  obtain ⟨h1, h2, h3, h4, h5, h6, h7⟩ := rightW_cases h
  have l0 := wordL_length x.key.length
  have l1 := wordL_length x.lo.toNat
  have l2 := wordL_length (x.hi - x.lo).toNat
  simp only [WindowL.bytes, textL, numberL, List.length_append]
  omega
/-- No more windows than an event is in at the most. -/
theorem ofW_slides (q : QueryL) (key : List (BitVec 8)) (t : Int) : ((ofW q key t).length : Int) ≤ q.slides ∧ (q.kind ≠ 2 → (ofW q key t).length ≤ 1) := by
  have h0 : 0 ≤ q.slides := by
    unfold QueryL.slides
    split
    · rename_i hr
      split
      · rename_i k2
        have h4 := (rightQ_cases hr).2.2.2.1 k2
        exact Int.ediv_nonneg (by omega) (by omega)
      · omega
    · omega
  unfold ofW
  split
  · rename_i hok
    simp only [okAsk, Bool.and_eq_true, decide_eq_true_eq] at hok
    obtain ⟨⟨hr, hn⟩, ht, ht1⟩ := hok
    obtain ⟨s1, s2, s3, s4, s5⟩ := stepQ_pos hr
    have hsl : q.slides = if q.kind = 2 then (q.size + q.slide - 1) / q.slide else 1 := by rw [QueryL.slides, hr, if_pos rfl]
    split
    · rename_i k3
      rw [hsl, if_neg (by omega)]
      simp
    · have key0 : t / stepQ q + 1 - loK q t ≤ (q.size + stepQ q - 1) / stepQ q := by
        have hlt : ∀ (a m : Int), a / stepQ q < m ↔ a < m * stepQ q := fun a m => Int.ediv_lt_iff_lt_mul (by omega)
        obtain ⟨c, hc⟩ : ∃ c, c = (q.size + stepQ q - 1) / stepQ q := ⟨_, rfl⟩
        have hc1 : q.size ≤ c * stepQ q := by
          have := (hlt (q.size + stepQ q - 1) (c + 1)).1 (by omega)
          rw [Int.add_mul, Int.one_mul] at this
          omega
        rw [← hc]
        unfold loK
        by_cases hp : t < q.size
        · rw [if_pos hp]
          have := (hlt t c).2 (by omega)
          omega
        · rw [if_neg hp]
          have ha := (hlt (t - q.size) ((t - q.size) / stepQ q + 1)).1 (by omega)
          rw [Int.add_mul, Int.one_mul] at ha
          have := (hlt t ((t - q.size) / stepQ q + 1 + c)).2 (by rw [Int.add_mul, Int.add_mul, Int.one_mul]; omega)
          omega
      obtain ⟨b1, b2, b3⟩ := loK_bd hr ht
      rw [runW_length]
      by_cases k2 : q.kind = 2
      · have hst : stepQ q = q.slide := by unfold stepQ; rw [if_pos k2]
        rw [hst] at key0 b2
        refine ⟨?_, fun h => absurd k2 h⟩
        rw [hsl, if_pos k2, hst]
        omega
      · have hst : stepQ q = q.size := by unfold stepQ; rw [if_neg k2]
        rw [hst] at key0 b2
        have e1 : (q.size + q.size - 1) / q.size = 1 := by
          have : q.size + q.size - 1 = (q.size - 1) + 1 * q.size := by omega
          rw [this, Int.add_mul_ediv_right _ _ (by omega), Int.ediv_eq_zero_of_lt (by omega) (by omega)]
          rfl
        rw [e1] at key0
        rw [hsl, if_neg k2, hst]
        exact ⟨by omega, fun _ => by omega⟩
  · exact ⟨by simpa using h0, fun _ => by simp⟩
theorem cmpW_lt {x y : WindowL} (h : x.hi < y.hi) : cmpW x y = -1 := by
  unfold cmpW firstI ordI
  rw [if_pos h, if_pos (by decide)]
end Go.Proofs.Ytbfioekbahcicaa
