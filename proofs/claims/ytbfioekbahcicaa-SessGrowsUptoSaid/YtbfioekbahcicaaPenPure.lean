/-
  Layer 3 as plain functions: a word's bytes, and what bytes tell: no program here.
-/
import Derived.Test.YtbfioekbahcicaaCoreBase
namespace Go.Proofs.Ytbfioekbahcicaa
open Go.RowKit

/-- A word's bytes, in at most n of them. -/
def wordF : Nat → Nat → List (BitVec 8)
  | 0, _ => []
  | n + 1, w => if w < 128 then [BitVec.ofNat 8 w] else BitVec.ofNat 8 (128 + w % 128) :: wordF n (w / 128)
def wordL (w : Nat) : List (BitVec 8) := wordF 10 w
theorem wordF_length : ∀ n w, (wordF n w).length ≤ n
  | 0, _ => by simp [wordF]
  | n + 1, w => by
    have := wordF_length n (w / 128)
    rw [wordF]
    split
    · simp
    · simp; omega
theorem wordL_length (w : Nat) : (wordL w).length ≤ 10 := wordF_length 10 w
/-- The bytes of a number that is not below 0, of a signed one, of a text. -/
def numberL (n : Int) : List (BitVec 8) := wordL n.toNat
def zig (n : Int) : Nat := if 0 ≤ n then 2 * n.toNat else 2 * (-(n + 1)).toNat + 1
def signedL (n : Int) : List (BitVec 8) := wordL (zig n)
def textL (b : List (BitVec 8)) : List (BitVec 8) := wordL b.length ++ b
def zag (w : Nat) : Int := if w % 2 = 1 then -((w / 2 : Nat) : Int) - 1 else ((w / 2 : Nat) : Int)
theorem zag_zig (n : Int) : zag (zig n) = n := by
  unfold zag zig
  split <;> split <;> omega
theorem zig_zag (w : Nat) : zig (zag w) = w := by
  unfold zag zig
  split <;> split <;> omega
theorem zig_lt (n : Int) (h1 : -9223372036854775808 ≤ n) (h2 : n < 9223372036854775808) : zig n < 18446744073709551616 := by
  unfold zig
  split <;> omega
theorem zag_bd (w : Nat) (h : w < 18446744073709551616) : -9223372036854775808 ≤ zag w ∧ zag w < 9223372036854775808 := by
  unfold zag
  split <;> omega

/-- A word read: its error (0: none), what it is, what is left. -/
def rdW : Nat → Nat → Nat → List (BitVec 8) → Nat × Nat × List (BitVec 8)
  | 0, _, _, _ => (11, 0, [])
  | _ + 1, _, _, [] => (10, 0, [])
  | n + 1, i, acc, c :: r =>
    if (c.toNat = 0 ∧ 0 < i) ∨ (i = 9 ∧ 1 < c.toNat) then (11, 0, [])
    else if c.toNat < 128 then (0, acc + c.toNat % 128 * 128 ^ i, r) else rdW n (i + 1) (acc + c.toNat % 128 * 128 ^ i) r

theorem p9 : (128 : Nat) ^ 9 = 9223372036854775808 := by decide
/-- What was written is read. -/
theorem rdW_word : ∀ (n i acc w : Nat) (r : List (BitVec 8)), i + n = 10 → w * 128 ^ i < 18446744073709551616 → (0 < i → 0 < w) → (n = 0 → False) → rdW n i acc (wordF n w ++ r) = (0, acc + w * 128 ^ i, r)
  | 0, _, _, _, _, _, _, _, h => (h rfl).elim
  | n + 1, i, acc, w, r, hi, hw, hp, _ => by
    rw [wordF]
    by_cases h : w < 128
    · rw [if_pos h]
      have hc : (BitVec.ofNat 8 w).toNat = w := by simp; omega
      simp only [List.cons_append, List.nil_append, rdW, hc]
      rw [if_neg, if_pos h, show w % 128 = w by omega]
      rintro (⟨h1, h2⟩ | ⟨h1, h2⟩)
      · have := hp h2
        omega
      · subst h1
        rw [p9] at hw
        omega
    · rw [if_neg h]
      have hc : (BitVec.ofNat 8 (128 + w % 128)).toNat = 128 + w % 128 := by simp; omega
      have hi9 : i < 9 := by
        rcases Nat.lt_or_ge i 9 with h9 | h9
        · exact h9
        · have : i = 9 := by omega
          subst this
          rw [p9] at hw
          omega
      simp only [List.cons_append, rdW, hc]
      rw [if_neg (by omega), if_neg (by omega)]
      have e : (128 + w % 128) % 128 = w % 128 := by omega
      have hm := Nat.div_add_mod w 128
      have e2 : w * 128 ^ i = w / 128 * 128 ^ (i + 1) + w % 128 * 128 ^ i := by
        rw [Nat.pow_succ, ← Nat.mul_assoc, Nat.mul_right_comm, ← Nat.add_mul]
        congr 1
        omega
      rw [e, rdW_word n (i + 1) _ (w / 128) r (by omega) (by omega) (fun _ => by omega) (by omega), e2]
      congr 2
      omega
theorem rdW_wordL (w : Nat) (r : List (BitVec 8)) (h : w < 18446744073709551616) : rdW 10 0 0 (wordL w ++ r) = (0, w, r) := by
  have := rdW_word 10 0 0 w r rfl (by simpa using h) (by omega) (by omega)
  simpa [wordL] using this
/-- What was read was written so. -/
theorem rdW_back : ∀ (n i acc v : Nat) (l r : List (BitVec 8)), i + n = 10 → acc < 128 ^ i → rdW n i acc l = (0, v, r) → ∃ w, v = acc + w * 128 ^ i ∧ l = wordF n w ++ r ∧ (0 < i → 0 < w) ∧ v < 18446744073709551616
  | 0, _, _, _, _, _, _, _, h => by simp [rdW] at h
  | n + 1, i, acc, v, [], r, _, _, h => by simp [rdW] at h
  | n + 1, i, acc, v, c :: l, r, hi, ha, h => by
    have hc := c.isLt
    rw [rdW] at h
    split at h
    · simp at h
    · rename_i hg
      have hpos : 0 < 128 ^ i := Nat.pow_pos (by decide)
      split at h
      · rename_i hlt
        simp only [Prod.mk.injEq, true_and] at h
        obtain ⟨rfl, rfl⟩ := h
        refine ⟨c.toNat, by rw [Nat.mod_eq_of_lt hlt], ?_, fun h0 => by omega, ?_⟩
        · rw [wordF, if_pos hlt]
          simp
        · rw [Nat.mod_eq_of_lt hlt]
          rcases Nat.lt_or_ge i 9 with h9 | h9
          · have h1 : 128 ^ (i + 1) ≤ 128 ^ 9 := Nat.pow_le_pow_right (by decide) (by omega)
            have h2 : c.toNat * 128 ^ i ≤ 127 * 128 ^ i := Nat.mul_le_mul_right _ (by omega)
            rw [Nat.pow_succ] at h1
            rw [p9] at h1
            omega
          · have : i = 9 := by omega
            subst this
            have h2 : c.toNat * 128 ^ 9 ≤ 1 * 128 ^ 9 := Nat.mul_le_mul_right _ (by omega)
            rw [p9] at ha h2 ⊢
            omega
      · rename_i hge
        have hi9 : i < 9 := by omega
        have ha' : acc + c.toNat % 128 * 128 ^ i < 128 ^ (i + 1) := by
          have h2 : c.toNat % 128 * 128 ^ i ≤ 127 * 128 ^ i := Nat.mul_le_mul_right _ (by omega)
          rw [Nat.pow_succ]
          omega
        obtain ⟨w, hv, hl, hw, hb⟩ := rdW_back n (i + 1) _ v l r (by omega) ha' h
        have hw0 := hw (by omega)
        refine ⟨c.toNat % 128 + 128 * w, ?_, ?_, fun _ => by omega, hb⟩
        · rw [hv, Nat.pow_succ, Nat.add_mul, Nat.add_assoc]
          congr 2
          rw [Nat.mul_comm 128 w, Nat.mul_assoc, Nat.mul_comm 128]
        · rw [wordF, if_neg (by omega), hl]
          have e1 : (c.toNat % 128 + 128 * w) % 128 = c.toNat % 128 := by omega
          have e2 : (c.toNat % 128 + 128 * w) / 128 = w := by omega
          rw [e1, e2, show 128 + c.toNat % 128 = c.toNat by omega]
          simp
theorem rdW_backL (v : Nat) (l r : List (BitVec 8)) (h : rdW 10 0 0 l = (0, v, r)) : l = wordL v ++ r ∧ v < 18446744073709551616 := by
  obtain ⟨w, hv, hl, _, hb⟩ := rdW_back 10 0 0 v l r rfl (by decide) h
  have : v = w := by simpa using hv
  subst this
  exact ⟨hl, hb⟩

/-- What is left of bytes that are read, and the first error (0: none). -/
structure TapeL where
  s : List (BitVec 8)
  e : Int
def TapeL.fail (t : TapeL) (e : Int) : TapeL := if t.e = 0 ∧ e ≠ 0 then ⟨[], e⟩ else t
def TapeL.word (t : TapeL) : Nat × TapeL :=
  if t.e ≠ 0 then (0, t) else if (rdW 10 0 0 t.s).1 = 0 then ((rdW 10 0 0 t.s).2.1, ⟨(rdW 10 0 0 t.s).2.2, 0⟩) else (0, t.fail (rdW 10 0 0 t.s).1)
def TapeL.number (t : TapeL) (most : Int) : Int × TapeL :=
  if 9223372036854775807 < t.word.1 then (0, t.word.2.fail 11) else if t.word.2.e = 0 ∧ most < t.word.1 then (0, t.word.2.fail 12) else (t.word.1, t.word.2)
def TapeL.signed (t : TapeL) : Int × TapeL := (zag t.word.1, t.word.2)
def TapeL.fixed (t : TapeL) (n : Int) : List (BitVec 8) × TapeL :=
  if t.e ≠ 0 then ([], t) else if n < 0 then ([], t.fail 2) else if (t.s.length : Int) < n then ([], t.fail 10) else (t.s.take n.toNat, ⟨t.s.drop n.toNat, t.e⟩)
def TapeL.text (t : TapeL) (most : Int) : List (BitVec 8) × TapeL :=
  if (t.number 9223372036854775807).2.e = 0 ∧ most < (t.number 9223372036854775807).1 then ((t.number 9223372036854775807).2.fail 12).fixed (t.number 9223372036854775807).1
  else (t.number 9223372036854775807).2.fixed (t.number 9223372036854775807).1
def TapeL.done (t : TapeL) : Int := if t.e = 0 ∧ t.s ≠ [] then 13 else t.e
theorem TapeL.word_lt (t : TapeL) : t.word.1 < 18446744073709551616 := by
  unfold TapeL.word
  split
  · simp
  · split
    · rename_i h
      obtain ⟨k, v, r, hv⟩ : ∃ k v r, rdW 10 0 0 t.s = (k, v, r) := ⟨_, _, _, rfl⟩
      rw [hv] at h ⊢
      obtain rfl : k = 0 := h
      exact (rdW_backL _ _ _ hv).2
    · simp
end Go.Proofs.Ytbfioekbahcicaa
