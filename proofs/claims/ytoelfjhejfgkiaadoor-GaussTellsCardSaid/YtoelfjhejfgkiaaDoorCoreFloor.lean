/-
  Which floats are whole numbers between two whole bounds: those that their floor is as great as.
-/
import Derived.Test.YtoelfjhejfgkiaaDoorCoreFloatRun
namespace Go.Proofs.YtoelfjhejfgkiaaDoor
open Go Go.RowKit Ieee

theorem order_num {s : Bool} {m : Nat} {i : Int} {e : Datum} {c : Int} (k : Val e c) : (Datum.number s m i).order e = some (compare (sZ s m * 2 ^ i.toNat) (c * 2 ^ (-i).toNat)) := by
  obtain ⟨t, n, j, rfl, hw⟩ := k
  obtain ⟨B, hB⟩ : ∃ B, B = min i j := ⟨_, rfl⟩
  obtain ⟨C, hC⟩ : ∃ C, C = min B 0 := ⟨_, rfl⟩
  have h2 := Val.scale (b := C) hw (by omega) (by omega)
  have e1 : (i - C).toNat = (i - B).toNat + (B - C).toNat := by omega
  have e2 : (j - C).toNat = (j - B).toNat + (B - C).toNat := by omega
  rw [e2, Int.pow_add, ← Int.mul_assoc] at h2
  simp only [Datum.order, signed_is, ← hB]
  rw [← cmp_scale _ _ (B - C).toNat, h2]
  -- both sides once more, by what the number's own place leaves
  obtain ⟨q, hq⟩ : ∃ q : Nat, (i - C).toNat = i.toNat + q ∧ (-C).toNat = (-i).toNat + q := by
    rcases Int.le_total 0 i with hi | hi
    · exact ⟨(-C).toNat, by omega⟩
    · exact ⟨(i - C).toNat, by omega⟩
  rw [Int.mul_assoc, ← Int.pow_add, ← e1, hq.1, hq.2, Int.pow_add, Int.pow_add, ← Int.mul_assoc, ← Int.mul_assoc, cmp_scale]
theorem cmp_le {a b : Int} (h : (compare a b == Ordering.lt || compare a b == Ordering.eq) = true) : a ≤ b := by
  rcases Int.lt_trichotomy a b with hl | hl | hl
  · omega
  · omega
  · exfalso
    have e : compare a b = .gt := by
      simp only [compare, compareOfLessAndEq]
      rw [if_neg (by omega), if_neg (by omega)]
    rw [e] at h
    revert h
    decide
theorem cmp_ge {a b : Int} (h : (compare a b == Ordering.gt || compare a b == Ordering.eq) = true) : b ≤ a := by
  rcases Int.lt_trichotomy a b with hl | hl | hl
  · exfalso
    have e : compare a b = .lt := by
      simp only [compare, compareOfLessAndEq]
      rw [if_pos hl]
    rw [e] at h
    revert h
    decide
  · omega
  · omega

theorem cut_down_le (neg : Bool) (n q M : Nat) (hM : 0 < M) (h : n ≤ M * 2 ^ q) : Toward.down.cut neg n q ≤ M := by
  unfold Toward.cut
  obtain ⟨g, hg⟩ : ∃ g, g = min q (n.log2 + 2) := ⟨_, rfl⟩
  have hp : 0 < 2 ^ g := Nat.pow_pos (by decide)
  simp only [← hg, Nat.shiftLeft_eq, Nat.one_mul]
  have hlow : n / 2 ^ g ≤ M ∧ (n % 2 ^ g ≠ 0 → n / 2 ^ g < M) := by
    rcases Nat.lt_or_ge (n.log2 + 2) q with hb | hb
    · have e : g = n.log2 + 2 := by omega
      have hlt : n < 2 ^ g := by
        rw [e]
        exact Nat.lt_of_lt_of_le Nat.lt_log2_self (Nat.pow_le_pow_right (by decide) (by omega))
      rw [Nat.div_eq_of_lt hlt]
      exact ⟨Nat.zero_le _, fun _ => hM⟩
    · have e : g = q := by omega
      subst e
      have hm := Nat.div_add_mod n (2 ^ g)
      refine ⟨Nat.div_le_of_le_mul (by rw [Nat.mul_comm]; exact h), fun hr => ?_⟩
      rw [Nat.div_lt_iff_lt_mul hp]
      rcases Nat.lt_or_ge n (M * 2 ^ g) with hl | hl
      · exact hl
      · exfalso
        have : n = M * 2 ^ g := Nat.le_antisymm h hl
        rw [this] at hr
        exact hr (Nat.mul_mod_left _ _)
  by_cases hr : n % 2 ^ g = 0
  · rw [hr]
    simp
    exact hlow.1
  · have := hlow.2 hr
    have hb : (n % 2 ^ g != 0) = true := by simpa using hr
    cases neg
    · simp
      omega
    · simp only [Bool.true_and, hb]
      show n / 2 ^ g + 1 ≤ M
      omega

/-- The floor of a float, as the machine makes it. -/
def floorW (x : Nat) : Nat := double.write ((double.read x).integral .down)
theorem ordB (o : Option Ordering) (a b : Ordering) (h : (o == some a || o == some b) = true) : ∃ c, o = some c ∧ (c == a || c == b) = true := by
  cases o with
  | none => cases a <;> cases b <;> revert h <;> decide
  | some c => exact ⟨c, rfl, by simpa using h⟩

/-- Between two whole bounds a float is a number; its floor is a whole number between them; and the floor is as great as the float just where the float is a whole number. -/
theorem floor_whole {x c0 c1 : Nat} {M : Nat} (hM : 0 < M) (hM2 : M < 9007199254740992) (k0 : FRep c0 (-(M : Int))) (k1 : FRep c1 (M : Int)) (h0 : (double.order x c0 == some .gt || double.order x c0 == some .eq) = true)
    (h1 : (double.order x c1 == some .lt || double.order x c1 == some .eq) = true) :
    (∃ s m i, double.read x = .number s m i) ∧ ∃ n : Int, FRep (floorW x) n ∧ -(M : Int) ≤ n ∧ n ≤ M ∧ ((double.order (floorW x) x == some .eq) = true ↔ FRep x n) ∧ ∀ n', FRep x n' → n' = n := by
  obtain ⟨o0, e0, g0⟩ := ordB _ _ _ h0
  obtain ⟨o1, e1, g1⟩ := ordB _ _ _ h1
  have hnum : ∃ s m i, double.read x = .number s m i := by
    cases hd : double.read x with
    | number s m i => exact ⟨s, m, i, rfl⟩
    | infinity s =>
      exfalso
      obtain ⟨t, n, j, hr, _⟩ := k0
      obtain ⟨t', n', j', hr', _⟩ := k1
      rw [Format.order, hd, hr] at e0
      rw [Format.order, hd, hr'] at e1
      cases s
      · simp only [Datum.order, Bool.false_eq_true, if_false, Option.some.injEq] at e1
        rw [← e1] at g1
        revert g1
        decide
      · simp only [Datum.order, if_true, Option.some.injEq] at e0
        rw [← e0] at g0
        revert g0
        decide
    | nan s t =>
      exfalso
      rw [Format.order, hd] at e0
      simp [Datum.order] at e0
  refine ⟨hnum, ?_⟩
  obtain ⟨s, m, i, hd⟩ := hnum
  rw [Format.order, hd, order_num k0, Option.some.injEq] at e0
  rw [Format.order, hd, order_num k1, Option.some.injEq] at e1
  rw [← e0] at g0
  rw [← e1] at g1
  have b0 := cmp_ge g0
  have b1 := cmp_le g1
  have hp : (0 : Int) < 2 ^ (-i).toNat := Int.pow_pos (by decide)
  have hN : m * 2 ^ i.toNat ≤ M * 2 ^ (-i).toNat := by
    have hc : ((m * 2 ^ i.toNat : Nat) : Int) ≤ ((M * 2 ^ (-i).toNat : Nat) : Int) := by
      simp only [Int.natCast_mul, Int.natCast_pow]
      cases s
      · simp only [sZ, Bool.false_eq_true, if_false] at b1
        exact b1
      · simp only [sZ, if_true, Int.neg_mul] at b0
        have h2 : ((2 : Nat) : Int) = 2 := rfl
        rw [h2]
        omega
    omega
  obtain ⟨K, hK⟩ : ∃ K, K = Toward.down.cut s (m <<< i.toNat) (-i).toNat := ⟨_, rfl⟩
  have hKM : K ≤ M := by rw [hK, Nat.shiftLeft_eq]; exact cut_down_le s _ _ M hM hN
  have hint : (double.read x).integral .down = .number s K 0 := by rw [hd, Datum.integral, hK]
  have hval : Val ((double.read x).integral .down) (sZ s K) := ⟨s, K, 0, hint, by simp⟩
  have habs : (sZ s K).natAbs = K := sZ_abs s K
  have hfl : FRep (floorW x) (sZ s K) := write_val hval (by omega)
  refine ⟨sZ s K, hfl, by omega, by omega, ⟨fun h => ?_, fun h => ?_⟩, fun n' h => ?_⟩
  · have : double.order (floorW x) x = some .eq := by simpa using h
    exact Val.of_eq hfl this ⟨s, m, i, hd⟩
  · rw [frep_order hfl h, cmp_eq]
    simp
  · obtain ⟨s', hi', hz'⟩ := Val.integral h .down
    rw [hint] at hi'
    injection hi' with a1 a2 a3
    rw [← hz', ← a1, ← a2]
end Go.Proofs.YtoelfjhejfgkiaaDoor
