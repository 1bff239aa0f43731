/-
  Layer 4's texts as lists of bytes: what they are, and what is read out of them: no function of the program here.
-/
import Derived.Test.YtbfioekbahcicaaCoreItoa
import Derived.Lib.Atoi
import Derived.Lib.ItoaMem
namespace Go.Proofs.Ytbfioekbahcicaa
open Go Go.RowKit

def bvL (l : List UInt8) : List (BitVec 8) := l.map fun c => BitVec.ofNat 8 c.toNat
theorem strOf_bv (l : List UInt8) : strOf (bvL l) = ⟨l.toArray⟩ := by
  have : (strOf (bvL l)).data = l.toArray := by
    rw [strOf_data, bvL, List.map_map]
    congr 1
    have : ((fun x : BitVec 8 => UInt8.ofNat x.toNat) ∘ fun c : UInt8 => BitVec.ofNat 8 c.toNat) = id := by
      funext c
      have := c.toNat_lt
      simp
    rw [this, List.map_id]
  cases h : strOf (bvL l) with
  | mk d =>
    rw [h] at this
    rw [← this]
theorem Sv_bv (l : List UInt8) : (Value.string ⟨l.toArray⟩) = Sv (bvL l) := by
  unfold Sv
  rw [strOf_bv]
theorem bvL_append (a b : List UInt8) : bvL (a ++ b) = bvL a ++ bvL b := by simp [bvL]
theorem bvL_length (a : List UInt8) : (bvL a).length = a.length := by simp [bvL]
theorem bvL_take (a : List UInt8) (n : Nat) : (bvL a).take n = bvL (a.take n) := by simp [bvL, List.map_take]
theorem bvL_drop (a : List UInt8) (n : Nat) : (bvL a).drop n = bvL (a.drop n) := by simp [bvL, List.map_drop]
theorem itoaL_bv (n : Int) : itoaL n = bvL (Lib.itoa n) := rfl
def signB (im : Int) : UInt8 := if im < 0 then 45 else 43
/-- The text of two parts. -/
def textB (re im : Int) : List UInt8 := Lib.itoa re ++ (signB im :: (Lib.decDigits im.natAbs ++ [105]))
theorem decFrom_app (a b : List UInt8) : ∀ acc n, Lib.decFrom acc a = some n → Lib.decFrom acc (a ++ b) = Lib.decFrom n b := by
  induction a with
  | nil =>
    intro acc n h
    simp only [Lib.decFrom, Option.some.injEq] at h
    rw [h, List.nil_append]
  | cons c a ih =>
    intro acc n h
    simp only [List.cons_append, Lib.decFrom] at h ⊢
    cases hd : Lib.digitVal c with
    | none => rw [hd] at h; cases h
    | some d =>
      rw [hd] at h
      exact ih _ _ h
theorem digit_of (d : Nat) (h : d < 10) : Lib.digitVal (UInt8.ofNat (48 + d)) = some d := by
  have : (UInt8.ofNat (48 + d)).toNat = 48 + d := by simp; omega
  unfold Lib.digitVal
  rw [this, if_pos (by omega)]
  congr 1
  omega
theorem decFrom_digits (u : Nat) : Lib.decFrom 0 (Lib.decDigits u) = some u := by
  induction u using Nat.strongRecOn with
  | _ u ih =>
    rw [Lib.decDigits]
    split
    · rename_i h
      simp only [Lib.decFrom, digit_of u h]
      simp
    · rename_i h
      rw [decFrom_app _ _ _ _ (ih (u / 10) (by omega))]
      simp only [Lib.decFrom, digit_of (u % 10) (by omega)]
      congr 1
      omega
theorem digits_bytes (u : Nat) : ∀ c ∈ Lib.decDigits u, 48 ≤ c.toNat ∧ c.toNat ≤ 57 := (decDigits_val u).2.1
theorem digits_pos (u : Nat) : 0 < (Lib.decDigits u).length := (decDigits_val u).2.2.1
theorem digits_len (k u : Nat) (h : u < 10 ^ (k + 1)) : (Lib.decDigits u).length ≤ k + 1 := by
  induction k generalizing u with
  | zero =>
    rw [Lib.decDigits, dif_pos (by omega)]
    simp
  | succ k ih =>
    rw [Lib.decDigits]
    split
    · simp
    · rw [List.length_append]
      have := ih (u / 10) (by rw [Nat.pow_succ] at h; omega)
      simp
      omega
theorem decNat_digits (u : Nat) : Lib.decNat (Lib.decDigits u) = some u := by
  have h := digits_pos u
  unfold Lib.decNat
  rw [if_neg (by simp; intro h2; rw [h2] at h; simp at h)]
  exact decFrom_digits u
theorem atoi_itoa (n : Int) : Lib.atoi (Lib.itoa n) = some n := by
  unfold Lib.itoa
  split
  · rename_i h
    have : n.natAbs = (n.natAbs : Nat) := rfl
    simp only [Lib.atoi]
    rw [if_pos (by decide), decNat_digits]
    simp
    omega
  · rename_i h
    have hp := digits_pos n.toNat
    have hb := digits_bytes n.toNat
    have hv := decNat_digits n.toNat
    cases hl : Lib.decDigits n.toNat with
    | nil => rw [hl] at hp; simp at hp
    | cons c r =>
      rw [hl] at hb hv
      have hc := hb c (by simp)
      simp only [Lib.atoi]
      have n1 : (c == 45) = false := by
        rw [beq_eq_false_iff_ne]
        rintro rfl
        revert hc
        decide
      have n2 : (c == 43) = false := by
        rw [beq_eq_false_iff_ne]
        rintro rfl
        revert hc
        decide
      rw [n1, n2, hv]
      simp
      omega
theorem atoi_sign (im : Int) : Lib.atoi (signB im :: Lib.decDigits im.natAbs) = some im := by
  unfold signB
  split
  · simp only [Lib.atoi]
    rw [if_pos (by decide), decNat_digits]
    simp
    omega
  · simp only [Lib.atoi]
    rw [if_neg (by decide), if_pos (by decide), decNat_digits]
    simp
    omega
def Sign (c : UInt8) : Prop := c = 43 ∨ c = 45
instance (c : UInt8) : Decidable (Sign c) := by unfold Sign; exact inferInstance
theorem sign_is (im : Int) : Sign (signB im) := by
  unfold signB Sign
  split
  · right; rfl
  · left; rfl
theorem digit_noSign (c : UInt8) (h : 48 ≤ c.toNat ∧ c.toNat ≤ 57) : ¬ Sign c := by
  rintro (rfl | rfl) <;> revert h <;> decide
theorem itoa_bytes (n : Int) : ∀ c ∈ Lib.itoa n, c.toNat < 128 := by
  unfold Lib.itoa
  intro c hc
  split at hc
  · rcases List.mem_cons.1 hc with rfl | hc
    · decide
    · have := digits_bytes _ c hc; omega
  · have := digits_bytes _ c hc; omega
theorem text_bytes (re im : Int) : ∀ c ∈ textB re im, c.toNat < 128 := by
  intro c hc
  unfold textB at hc
  rcases List.mem_append.1 hc with hc | hc
  · exact itoa_bytes _ _ hc
  · rcases List.mem_cons.1 hc with rfl | hc
    · unfold signB; split <;> decide
    · rcases List.mem_append.1 hc with hc | hc
      · have := digits_bytes _ c hc; omega
      · simp only [List.mem_singleton] at hc
        subst hc
        decide
theorem itoa_len (n : Int) (h : -1073741824 ≤ n ∧ n ≤ 1073741824) : 0 < (Lib.itoa n).length ∧ (Lib.itoa n).length ≤ 11 := by
  unfold Lib.itoa
  split
  · have := digits_pos n.natAbs
    have := digits_len 9 n.natAbs (by omega)
    simp
    omega
  · have := digits_pos n.toNat
    have := digits_len 9 n.toNat (by omega)
    omega
theorem text_len (re im : Int) : (textB re im).length = (Lib.itoa re).length + 1 + (Lib.decDigits im.natAbs).length + 1 := by
  simp [textB]
  omega
theorem text_sign (re im : Int) : (textB re im)[(Lib.itoa re).length]? = some (signB im) := by
  unfold textB
  rw [List.getElem?_append_right (Nat.le_refl _), Nat.sub_self]
  rfl
theorem text_after (re im : Int) (j : Nat) (c : UInt8) (h : (Lib.itoa re).length < j) (hc : (textB re im)[j]? = some c) : ¬ Sign c := by
  unfold textB at hc
  rw [List.getElem?_append_right (by omega)] at hc
  obtain ⟨k, hk⟩ : ∃ k, j - (Lib.itoa re).length = k + 1 := ⟨j - (Lib.itoa re).length - 1, by omega⟩
  rw [hk, List.getElem?_cons_succ] at hc
  have hm := List.mem_of_getElem? hc
  rcases List.mem_append.1 hm with hm | hm
  · exact digit_noSign c (digits_bytes _ c hm)
  · simp only [List.mem_singleton] at hm
    subst hm
    decide
theorem text_first (re im : Int) : (textB re im).take (Lib.itoa re).length = Lib.itoa re := by
  unfold textB
  rw [List.take_left]
theorem text_second (re im : Int) : ((textB re im).take ((textB re im).length - 1)).drop (Lib.itoa re).length = signB im :: Lib.decDigits im.natAbs := by
  have e : textB re im = (Lib.itoa re ++ (signB im :: Lib.decDigits im.natAbs)) ++ [105] := by simp [textB]
  rw [e, List.length_append, List.length_singleton, Nat.add_sub_cancel, List.take_left, List.drop_left]
end Go.Proofs.Ytbfioekbahcicaa
