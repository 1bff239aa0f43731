/-
  What is written is read again, and what is read whole was written so: plain, over the tape; how a reader and a pen live side by side.
-/
import Derived.Test.YteoolfifpmbkeaaDoorReadTwo
import Derived.Test.YteoolfifpmbkeaaDoorPenActs
namespace Go.Proofs.YteoolfifpmbkeaaDoor
open Go Go.RowKit

def posN (n : Int) : Nat := (n % 9223372036854775808).toNat
theorem posN_lt (n : Int) : posN n < 9223372036854775808 := by
  unfold posN
  omega
theorem bits_mask (n : Int) (h1 : -9223372036854775808 ≤ n) (h2 : n < 9223372036854775808) : bits .and .i64 n 9223372036854775807 = ((posN n : Nat) : Int) := by
  show IntKind.i64.wrap ((BitVec.ofInt 64 n &&& BitVec.ofInt 64 9223372036854775807).toNat : Int) = _
  have e1 : BitVec.ofInt 64 9223372036854775807 = BitVec.ofNat 64 (2 ^ 63 - 1) := by decide +kernel
  rw [e1, BitVec.toNat_and, BitVec.toNat_ofNat, Nat.mod_eq_of_lt (by decide : 2 ^ 63 - 1 < 2 ^ 64), Nat.and_two_pow_sub_one_eq_mod]
  have e2 : (BitVec.ofInt 64 n).toNat % 2 ^ 63 = posN n := by
    rw [BitVec.toNat_ofInt]
    unfold posN
    omega
  rw [e2]
  have := posN_lt n
  exact IntWalk.i64_in _ (by omega)
/-- What an act writes. -/
def encR (x : OpR) : List (BitVec 8) := wordL (posN x.n) ++ (signedL x.n ++ (textL x.part.m ++ x.part.m))
def encL (l : List OpR) : List (BitVec 8) := l.flatMap encR
theorem encL_step (l : List OpR) (t : Nat) (x : OpR) (h : l[t]? = some x) : encL (l.take (t + 1)) = encL (l.take t) ++ encR x := by
  have ht : t < l.length := (List.getElem?_eq_some_iff.1 h).1
  have e : l.take (t + 1) = l.take t ++ [x] := by
    rw [List.take_succ_eq_append_getElem ht]
    rw [List.getElem?_eq_getElem ht] at h
    simp only [Option.some.injEq] at h
    rw [h]
  rw [e, encL, encL, List.flatMap_append]
  simp
theorem encL_drop (l : List OpR) (t : Nat) (x : OpR) (h : l[t]? = some x) : encL (l.drop t) = encR x ++ encL (l.drop (t + 1)) := by
  have ht : t < l.length := (List.getElem?_eq_some_iff.1 h).1
  rw [List.getElem?_eq_getElem ht] at h
  simp only [Option.some.injEq] at h
  rw [List.drop_eq_getElem_cons ht, h, encL, encL]
  simp
theorem encR_length (x : OpR) : (encR x).length ≤ 30 + 2 * x.part.m.length := by
  have h1 := wordL_length (posN x.n)
  have h2 : (signedL x.n).length ≤ 10 := wordL_length _
  have h3 := wordL_length x.part.m.length
  simp only [encR, textL, List.length_append]
  omega
theorem back_word (k : Nat) (hk : k < 18446744073709551616) (r : List (BitVec 8)) : (TapeL.mk (wordL k ++ r) 0).word = (k, ⟨r, 0⟩) := tapeWord_ok rfl (rdW_wordL k r hk)
theorem back_number (k : Nat) (most : Int) (hk : k < 9223372036854775808) (hm : (k : Int) ≤ most) (r : List (BitVec 8)) : (TapeL.mk (wordL k ++ r) 0).number most = ((k : Int), ⟨r, 0⟩) := by
  rw [TapeL.number, back_word k (by omega) r]
  simp only
  rw [if_neg (by omega), if_neg (by omega)]
theorem back_signed (n : Int) (h1 : -9223372036854775808 ≤ n) (h2 : n < 9223372036854775808) (r : List (BitVec 8)) : (TapeL.mk (signedL n ++ r) 0).signed = (n, ⟨r, 0⟩) := by
  rw [TapeL.signed, signedL, back_word (zig n) (zig_lt n h1 h2) r]
  simp only [zag_zig]
theorem back_fixed (m r : List (BitVec 8)) : (TapeL.mk (m ++ r) 0).fixed (m.length : Int) = (m, ⟨r, 0⟩) := by
  rw [fixed_good (by simp) (fun h => absurd rfl h)]
  simp
theorem back_text (m r : List (BitVec 8)) (h : m.length ≤ 300) : (TapeL.mk (textL m ++ r) 0).text 300 = (m, ⟨r, 0⟩) := by
  rw [text_eq, textL, List.append_assoc, back_number m.length 300 (by omega) (by omega)]
  exact back_fixed m r
/-- A signed number read: it stood there as it would be written; or the tape tells an error. -/
theorem signed_cases (t : TapeL) (h0 : t.e = 0) : (∃ v r, t.signed = (v, ⟨r, 0⟩) ∧ t.s = signedL v ++ r ∧ -9223372036854775808 ≤ v ∧ v < 9223372036854775808 ∧ 0 < (signedL v).length) ∨ (t.signed.2.e ≠ 0 ∧ t.signed.2.s = []) := by
  obtain ⟨k, v, r, hv⟩ : ∃ k v r, rdW 10 0 0 t.s = (k, v, r) := ⟨_, _, _, rfl⟩
  by_cases hk : k = 0
  · subst hk
    left
    obtain ⟨h1, h2⟩ := rdW_backL v t.s r hv
    have hb := zag_bd v h2
    have hsg : signedL (zag v) = wordL v := by rw [signedL, zig_zag]
    refine ⟨zag v, r, by rw [TapeL.signed, tapeWord_ok h0 hv], by rw [hsg]; exact h1, hb.1, hb.2, ?_⟩
    rw [hsg, wordL, wordF]
    split <;> simp
  · right
    rw [TapeL.signed, tapeWord_err h0 hv hk]
    exact ⟨by show (k : Int) ≠ 0; omega, rfl⟩
theorem own_ne2 {base b : Nat} {w : World} {v : Value} {xs : List Value} {c : Array Value} {t : TypeId} {fr : Nat × Nat} (h : Own w base 5 v xs) (hb : w.heap[b]? = some (.cells c t fr)) (ht : t ≠ 5) : v.ownBlock ≠ some b := by
  intro he
  rcases h.2 with ⟨hv, _⟩ | ⟨g, cap, cur, hv, _, hrow, _⟩
  · rw [hv] at he
    cases he
  · rw [hv] at he
    injection he with he
    have : g = b := he
    subst this
    rw [hb] at hrow
    injection hrow with hrow
    injection hrow with _ e2
    exact ht e2
theorem rd_row {base b : Nat} {w : World} {t : TapeL} (h : RdAt base w b t) : ∃ c, w.heap[b]? = some (.cells c 61 (0, 0)) := by
  obtain ⟨a, n, c, hb, _⟩ := h
  exact ⟨_, hb⟩
theorem pen_rd_ne {X : Nat → Prop} {base b q : Nat} {w : World} {t : TapeL} {l : List (BitVec 8)} (h : RdAt base w b t) (hp : PenAt X w q l) : q ≠ b := by
  intro e
  subst e
  obtain ⟨c, hb⟩ := rd_row h
  obtain ⟨v, hq, _⟩ := hp
  rw [hb] at hq
  injection hq with hq
  injection hq with _ e2
  exact absurd e2 (by decide)
/-- The pen stays as it is while a reader's block is written. -/
theorem PenAt.aside {X : Nat → Prop} {base b q : Nat} {w w' : World} {t : TapeL} {l : List (BitVec 8)} (hp : PenAt X w q l) (h : RdAt base w b t) (hg : w.grownBy w' (some b)) : PenAt X w' q l := by
  have hne := pen_rd_ne h hp
  obtain ⟨c, hb⟩ := rd_row h
  obtain ⟨v, hq, ho, hx⟩ := hp
  refine ⟨v, (hg.block q (Array.getElem?_eq_some_iff.1 hq).1 (by simpa using hne)).trans hq, ho.kept hg ?_, hx⟩
  exact .inr (own_ne2 ho hb (by decide))
/-- The reader stays as it is while a pen writes that keeps what lies below the reader's bound. -/
theorem RdAt.pen {X : Nat → Prop} {base b q : Nat} {w w' : World} {t : TapeL} {l : List (BitVec 8)} (h : RdAt base w b t) (hp : PenAt X w q l) (hK : PKept X q w w') (hX : ∀ k < base, X k) : RdAt base w' b t := by
  have hne := pen_rd_ne h hp
  obtain ⟨v, hq, ho⟩ := hp
  obtain ⟨a, n, c, h1, h2, h3, h4, h5, h6, h7⟩ := h
  refine ⟨a, n, c, hK.row h1 (by decide) hne.symm, h2, h3, h4, h5, ?_, h7⟩
  rcases h6 with h6 | ⟨ab, off, k1, k2, k3, k4⟩
  · exact .inl h6
  · by_cases h0 : t.s.length = 0
    · exact .inl h0
    · have hne2 : ab ≠ q := by
        intro e
        have hc := k4 0 (by omega)
        rw [e, cell_of_row _ _ _ _ _ _ hq] at hc
        match off, hc, ho with
        | 0, hc, ho =>
          obtain ⟨a', c', hv⟩ := ho.1.form
          rw [hv] at hc
          simp [B] at hc
        | k + 1, hc, _ => simp at hc
      refine .inr ⟨ab, off, k1, k2, k3, fun i hi => ?_⟩
      have hc := k4 i hi
      exact cell_of_heap hc (hK.2.2.2.2.1 ab (hX ab k2) hne2 (block_lt_of_cell hc))
def rdLeft (sb : Nat) (w : World) : Nat := lenOf ((w.cell? ⟨sb, 0, none⟩).getD undef)
theorem rdLeft_eq {base b : Nat} {w : World} {t : TapeL} (h : RdAt base w b t) : rdLeft b w = t.s.length := by
  obtain ⟨a, n, c, h1, h2, _⟩ := h
  rw [rdLeft, (rd_cells h1).1, ← h2]
  rfl
end Go.Proofs.YteoolfifpmbkeaaDoor
