/-
  A reader in memory; the contracts of Read, Fail, Err, Left, End; of a nil reader's.
  The contract of a reader's word.
  The contracts of a reader's Number, Signed, Fixed, Text; of a nil one's.
-/
import Derived.Test.YtbfioekbahcicaaPenPen
import Derived.Test.YtbfioekbahcicaaRefTapes
import Derived.Test.YtbfioekbahcicaaLocal
namespace Go.Proofs.Ytbfioekbahcicaa
open Go Go.RowKit

/-- The bytes m lie from a on, in a block below base that is not b. -/
def SrcR (base b : Nat) (w : World) (a : Option Addr) (m : List (BitVec 8)) : Prop :=
  m.length = 0 ∨ ∃ ab off, a = some ⟨ab, off, none⟩ ∧ ab < base ∧ ab ≠ b ∧ ∀ i < m.length, w.cell? ⟨ab, off + i, none⟩ = some (B (gl m i))
theorem SrcR.srcP {base b : Nat} {w : World} {a : Option Addr} {m : List (BitVec 8)} (h : SrcR base b w a m) : SrcP w a m.length m := by
  rcases h with h | ⟨ab, off, h1, _, _, h3⟩
  · exact .inl h
  · exact .inr ⟨ab, off, h1, h3⟩
theorem SrcR.grown {base b : Nat} {w w' : World} {a : Option Addr} {m : List (BitVec 8)} (h : SrcR base b w a m) (hg : w.grownBy w' (some b)) : SrcR base b w' a m := by
  rcases h with h | ⟨ab, off, h1, h2, h3, h4⟩
  · exact .inl h
  · exact .inr ⟨ab, off, h1, h2, h3, fun i hi => hg.cell (h4 i hi) (by simpa using h3)⟩
theorem SrcR.drop {base b : Nat} {w : World} {a : Option Addr} {m : List (BitVec 8)} (h : SrcR base b w a m) (k : Nat) (cap : Nat) (hc : m.length ≤ cap) (hk : k ≤ m.length) : SrcR base b w (if cap = k then a else a.map (·.add k)) (m.drop k) := by
  by_cases h0 : m.length ≤ k
  · exact .inl (by rw [List.length_drop]; omega)
  · rcases h with h | ⟨ab, off, rfl, h2, h3, h4⟩
    · omega
    · rw [if_neg (show ¬ cap = k by omega)]
      refine .inr ⟨ab, off + k, by simp [addr_add], h2, h3, fun i hi => ?_⟩
      rw [List.length_drop] at hi
      rw [Nat.add_assoc, h4 (k + i) (by omega)]
      simp [gl]
theorem SrcR.take {base b : Nat} {w : World} {a : Option Addr} {m : List (BitVec 8)} (h : SrcR base b w a m) (k : Nat) : SrcP w a (m.take k).length (m.take k) := by
  rcases h with h | ⟨ab, off, rfl, h2, h3, h4⟩
  · exact .inl (by rw [List.length_take]; omega)
  · refine .inr ⟨ab, off, rfl, fun i hi => ?_⟩
    rw [List.length_take] at hi
    rw [h4 i (by omega)]
    have : i < k := by omega
    simp [gl, this]
end Go.Proofs.Ytbfioekbahcicaa
namespace Go.Proofs.Ytbfioekbahcicaa
open Go Go.RowKit

theorem frame62 (A : Array Value) (h : A.size = 62) : ∃ u : Nat → Value, (∀ i, i < 62 → A[i]? = some (u i)) ∧ A = List.toArray (u 0 :: u 1 :: u 2 :: u 3 :: u 4 :: u 5 :: u 6 :: u 7 :: u 8 :: u 9 :: u 10 :: u 11 :: u 12 :: u 13 :: u 14 :: u 15 :: u 16 :: u 17 :: u 18 :: u 19 :: u 20 :: u 21 :: u 22 :: u 23 :: u 24 :: u 25 :: u 26 :: u 27 :: u 28 :: u 29 :: u 30 :: u 31 :: u 32 :: u 33 :: u 34 :: u 35 :: u 36 :: u 37 :: u 38 :: u 39 :: u 40 :: u 41 :: u 42 :: u 43 :: u 44 :: u 45 :: u 46 :: u 47 :: u 48 :: u 49 :: u 50 :: u 51 :: u 52 :: u 53 :: u 54 :: u 55 :: u 56 :: u 57 :: u 58 :: u 59 :: u 60 :: u 61 :: []) := by
  refine ⟨fun i => A.getD i undef, fun i hi => by simp [h, hi], ?_⟩
  have := frame_list A
  rw [h] at this
  apply Array.ext'
  rw [this]
  rfl
def RNext (b : Nat) (w : World) (l0 : List (BitVec 8)) (a : Act) (w' : World) : Prop :=
  w' = w ∧ a.defers = [] ∧ a.tmps.size = 62 ∧ a.tmps[0]? = some (.pointer (some ⟨b, 0, none⟩)) ∧ a.tmps[6]? = some (.int .i64 10) ∧
    ∃ i n acc : Nat, i + n = 9 ∧ acc < 128 ^ i ∧ i ≤ l0.length ∧ a.tmps[3]? = some (.int .u64 (acc : Int)) ∧ a.tmps[5]? = some (.int .i64 (i : Int)) ∧ rdW (n + 1) i acc (l0.drop i) = rdW 10 0 0 l0
def RWrong (b : Nat) (w : World) (l0 : List (BitVec 8)) (a : Act) (w' : World) : Prop :=
  w' = w ∧ a.defers = [] ∧ a.tmps.size = 62 ∧ a.tmps[0]? = some (.pointer (some ⟨b, 0, none⟩)) ∧ ∃ (k v : Nat) (r : List (BitVec 8)), k ≠ 0 ∧ a.tmps[6]? = some (.int .i64 (k : Int)) ∧ rdW 10 0 0 l0 = (k, v, r)
def rmeasure (a : Act) (_ : World) : Nat := 11 - (intOf ((a.tmps[5]?).getD undef)).toNat
theorem word_wrong {t : TapeL} {k v : Nat} {r : List (BitVec 8)} (h : rdW 10 0 0 t.s = (k, v, r)) (hk : k ≠ 0) : t.word = (0, t.fail (k : Int)) := by
  unfold TapeL.word
  by_cases he : t.e = 0
  · rw [if_neg (by simp [he]), h, if_neg hk]
  · rw [if_pos he, TapeL.fail, if_neg (fun h => he h.1)]
def RBadCut (bad : Bool) (i x : Nat) (W1 : World) (si sx s : Value) (wx : World) : Prop := si = .int .i64 (i : Int) ∧ sx = .int .u8 (x : Int) ∧ s = .bool bad ∧ wx = W1
theorem andNot8 : ∀ x : Fin 256, bits .andNot .u8 (x.val : Int) 128 = ((x.val % 128 : Nat) : Int) := by decide +kernel
theorem or_sum (a z k y : Nat) (hz : z = 2 ^ k * y) (ha : a < 2 ^ k) (hs : a + z < 18446744073709551616) : bits .or .u64 (a : Int) (z : Int) = ((a + z : Nat) : Int) := by
  have e : ∀ n : Nat, BitVec.ofInt 64 (n : Int) = BitVec.ofNat 64 n := fun n => by
    apply BitVec.eq_of_toNat_eq
    simp
  show IntKind.u64.wrap ((BitVec.ofInt 64 (a : Int) ||| BitVec.ofInt 64 (z : Int)).toNat : Int) = _
  rw [e, e, BitVec.toNat_or, BitVec.toNat_ofNat, BitVec.toNat_ofNat, Nat.mod_eq_of_lt (by omega), Nat.mod_eq_of_lt (by omega)]
  have h := Nat.two_pow_add_eq_or_of_lt ha y
  rw [← hz] at h
  rw [Nat.or_comm, ← h, Nat.add_comm, wrapU64 _ hs]
end Go.Proofs.Ytbfioekbahcicaa
namespace Go.Proofs.Ytbfioekbahcicaa
open Go Go.RowKit

theorem word_err {t : TapeL} (h : t.word.2.e ≠ 0) : t.word.1 = 0 := by
  unfold TapeL.word at h ⊢
  by_cases h1 : t.e ≠ 0
  · rw [if_pos h1]
  · rw [if_neg h1] at h ⊢
    by_cases h2 : (rdW 10 0 0 t.s).1 = 0
    · rw [if_pos h2] at h
      exact absurd rfl h
    · rw [if_neg h2]
theorem fail_err {t : TapeL} (h : t.e ≠ 0) (k : Int) : t.fail k = t := if_neg fun h' => h h'.1
theorem bits_and1 (v : Nat) (h : v < 18446744073709551616) : bits .and .u64 (v : Int) 1 = ((v % 2 : Nat) : Int) := by
  have e : BitVec.ofInt 64 (v : Int) = BitVec.ofNat 64 v := by
    apply BitVec.eq_of_toNat_eq
    simp
  show IntKind.u64.wrap ((BitVec.ofInt 64 (v : Int) &&& BitVec.ofInt 64 1).toNat : Int) = _
  have e1 : BitVec.ofInt 64 1 = BitVec.ofNat 64 1 := rfl
  rw [e, e1, BitVec.toNat_and, BitVec.toNat_ofNat, BitVec.toNat_ofNat, Nat.mod_eq_of_lt (by omega : v < 2 ^ 64)]
  rw [show (1 % 2 ^ 64 : Nat) = 1 from rfl, Nat.and_one_is_mod, wrapU64 _ (by omega)]
theorem bits_xor_i64 (q : Nat) (h : q < 9223372036854775808) : bits .xor .i64 (-1) (q : Int) = -(q : Int) - 1 := by
  have e : BitVec.ofInt 64 (q : Int) = BitVec.ofNat 64 q := by
    apply BitVec.eq_of_toNat_eq
    simp
  have e2 : BitVec.ofInt 64 (-1) = BitVec.allOnes 64 := by decide +kernel
  show IntKind.i64.wrap ((BitVec.ofInt 64 (-1) ^^^ BitVec.ofInt 64 (q : Int)).toNat : Int) = _
  rw [e, e2, BitVec.allOnes_xor, BitVec.toNat_not]
  simp [IntKind.wrap, IntKind.bits, IntKind.signed]
  omega
theorem fixed_neg {t : TapeL} {n : Int} (h : n < 0) : t.fixed n = ([], t.fail 2) := by
  unfold TapeL.fixed
  by_cases h0 : t.e = 0
  · rw [if_neg (by simp [h0]), if_pos h]
  · rw [if_pos h0, fail_err h0]
theorem fixed_long {t : TapeL} {n : Int} (h : (t.s.length : Int) < n) : t.fixed n = ([], t.fail 10) := by
  unfold TapeL.fixed
  by_cases h0 : t.e = 0
  · rw [if_neg (by simp [h0]), if_neg (by omega), if_pos h]
  · rw [if_pos h0, fail_err h0]
theorem fixed_good {t : TapeL} {n : Nat} (h : n ≤ t.s.length) (hs : t.e ≠ 0 → t.s = []) : t.fixed (n : Int) = (t.s.take n, ⟨t.s.drop n, t.e⟩) := by
  unfold TapeL.fixed
  by_cases h0 : t.e = 0
  · rw [if_neg (by simp [h0]), if_neg (by omega), if_neg (by omega)]
    simp
  · rw [if_pos h0]
    have := hs h0
    obtain ⟨s, e⟩ := t
    obtain rfl : s = [] := this
    simp
theorem fixed_err {t : TapeL} (h : t.e ≠ 0) (n : Int) : t.fixed n = ([], t) := if_pos h
theorem text_eq (t : TapeL) (most : Int) : t.text most = (t.number most).2.fixed (t.number most).1 := by
  unfold TapeL.text TapeL.number
  have he := @word_err t
  obtain ⟨v, hv⟩ : ∃ v, v = t.word.1 := ⟨_, rfl⟩
  obtain ⟨s, hs⟩ : ∃ s, s = t.word.2 := ⟨_, rfl⟩
  rw [← hv, ← hs]
  rw [← hv, ← hs] at he
  clear hv hs
  by_cases hbig : 9223372036854775807 < v
  · simp only [if_pos hbig]
    have h0 : s.e = 0 := by
      by_cases h : s.e = 0
      · exact h
      · have := he h
        omega
    have h1 : (s.fail 11).e ≠ 0 := by
      rw [TapeL.fail, if_pos ⟨h0, by decide⟩]
      show (11 : Int) ≠ 0
      decide
    rw [if_neg (fun h => h1 h.1)]
  · simp only [if_neg hbig]
    rw [if_neg (show ¬ (s.e = 0 ∧ (9223372036854775807 : Int) < (v : Int)) by omega)]
    by_cases hm : s.e = 0 ∧ most < (v : Int)
    · simp only [if_pos hm]
      have h1 : (s.fail 12).e ≠ 0 := by
        rw [TapeL.fail, if_pos ⟨hm.1, by decide⟩]
        show (12 : Int) ≠ 0
        decide
      rw [fixed_err h1, fixed_err h1]
    · simp only [if_neg hm]
end Go.Proofs.Ytbfioekbahcicaa
