/-
  Floats of 64 bits: what a sum or a product beyond 2^53 comes to is a whole number near the true one.
-/
import Derived.Test.YtoelfjhejfgkiaaDoorCoreFloatRun
namespace Go.Proofs.YtoelfjhejfgkiaaDoor
open Go Go.RowKit Ieee

theorem cut_near (neg : Bool) (n d : Nat) (hd : d ≤ n.log2 + 2) : Toward.even.cut neg n d = n / 2 ^ d ∨ Toward.even.cut neg n d = n / 2 ^ d + 1 := by
  have hm : min d (n.log2 + 2) = d := by omega
  unfold Toward.cut
  simp only [hm, Nat.shiftLeft_eq, Nat.one_mul]
  cases hb : (decide (2 ^ d < 2 * (n % 2 ^ d)) || (2 ^ d == 2 * (n % 2 ^ d) && n / 2 ^ d % 2 == 1))
  · left; simp
  · right; simp
theorem rung_near (neg : Bool) (D K : Nat) (hD : D ≤ 900) (h1 : 4503599627370496 ≤ K) (h2 : K ≤ 9007199254740992) :
    ∃ m i, double.read (double.word neg ((D + 1022) * 4503599627370496 + K)) = .number neg m ((D : Int) - 52 + (i : Nat)) ∧ m * 2 ^ i = K := by
  rw [word_read neg _ (by omega), if_neg (by omega)]
  rcases Nat.lt_or_ge K 9007199254740992 with h | h
  · refine ⟨K, 0, ?_, by simp⟩
    have a : 4503599627370496 + ((D + 1022) * 4503599627370496 + K) % 4503599627370496 = K := by omega
    have b : ((D + 1022) * 4503599627370496 + K) / 4503599627370496 - 1 = D + 1022 := by omega
    have c : (-1074 : Int) + ((D + 1022 : Nat) : Int) = (D : Int) - 52 + ((0 : Nat) : Int) := by omega
    rw [a, b, c]
  · obtain rfl : K = 9007199254740992 := by omega
    refine ⟨4503599627370496, 1, ?_, by decide⟩
    have a : 4503599627370496 + ((D + 1022) * 4503599627370496 + 9007199254740992) % 4503599627370496 = 4503599627370496 := by omega
    have b : ((D + 1022) * 4503599627370496 + 9007199254740992) / 4503599627370496 - 1 = D + 1023 := by omega
    have c : (-1074 : Int) + ((D + 1023 : Nat) : Int) = (D : Int) - 52 + ((1 : Nat) : Int) := by omega
    rw [a, b, c]
theorem nearest_near (neg : Bool) (mag : Nat) (place : Int) (N : Nat) (h : mag * 2 ^ place.toNat = N * 2 ^ (-place).toNat) (hN : N < 9223372036854775808) :
    ∃ m i N', double.read (double.nearest neg mag place) = .number neg m i ∧ m * 2 ^ i.toNat = N' * 2 ^ (-i).toNat ∧ N' ≤ N + 1024 ∧ N ≤ N' + 1024 := by
  rcases Nat.lt_or_ge N 9007199254740992 with hs | hb
  · obtain ⟨m, i, h1, h2⟩ := nearest_val neg mag place N h hs
    exact ⟨m, i, N, h1, h2, by omega, by omega⟩
  · have h0 : ¬ mag = 0 := by
      rintro rfl
      rw [Nat.zero_mul] at h
      rcases Nat.mul_eq_zero.1 h.symm with e | e
      · omega
      · exact absurd e (Nat.ne_of_gt (Nat.pow_pos (by decide)))
    obtain ⟨L, hL⟩ : ∃ L, L = mag.log2 := ⟨_, rfl⟩
    have hl1 : 2 ^ L ≤ mag := by rw [hL]; exact Nat.log2_self_le h0
    have hl2 : mag < 2 ^ (L + 1) := by rw [hL]; exact Nat.lt_log2_self
    obtain ⟨D, hDp, hD62, hN1, hN2⟩ : ∃ D : Nat, (D : Int) = place + L ∧ D ≤ 62 ∧ 2 ^ D ≤ N ∧ N < 2 ^ (D + 1) := by
      rcases Int.le_total 0 place with hp | hp
      · obtain ⟨p, rfl⟩ := Int.eq_ofNat_of_zero_le hp
        simp only [Int.toNat_natCast, Int.toNat_neg_natCast, Nat.pow_zero, Nat.mul_one] at h
        have k1 : 2 ^ (p + L) ≤ N := by rw [← h, Nat.add_comm, Nat.pow_add]; exact Nat.mul_le_mul_right _ hl1
        have k2 : N < 2 ^ (p + L + 1) := by rw [← h, show p + L + 1 = L + 1 + p by omega, Nat.pow_add]; exact Nat.mul_lt_mul_of_pos_right hl2 (Nat.pow_pos (by decide))
        have k3 : p + L < 63 := pow2_lt (Nat.lt_of_le_of_lt k1 hN)
        exact ⟨p + L, by simp, by omega, k1, k2⟩
      · obtain ⟨q, rfl⟩ := Int.exists_eq_neg_ofNat hp
        simp only [Int.neg_neg, Int.toNat_natCast, Int.toNat_neg_natCast, Nat.pow_zero, Nat.mul_one] at h
        have k0 : q ≤ L := by
          have : 2 ^ q ≤ mag := by rw [h]; exact Nat.le_mul_of_pos_left _ (by omega)
          have := pow2_lt (Nat.lt_of_le_of_lt this hl2)
          omega
        have e : 2 ^ L = 2 ^ (L - q) * 2 ^ q := by rw [← Nat.pow_add]; congr 1; omega
        have e2 : 2 ^ (L + 1) = 2 ^ (L - q + 1) * 2 ^ q := by rw [← Nat.pow_add]; congr 1; omega
        have k1 : 2 ^ (L - q) ≤ N := by
          rw [h, e] at hl1
          exact Nat.le_of_mul_le_mul_right hl1 (Nat.pow_pos (by decide))
        have k2 : N < 2 ^ (L - q + 1) := by
          rw [h, e2] at hl2
          exact Nat.lt_of_mul_lt_mul_right hl2
        have k3 : L - q < 63 := pow2_lt (Nat.lt_of_le_of_lt k1 hN)
        exact ⟨L - q, by omega, by omega, k1, k2⟩
    have hD53 : 53 ≤ D := by
      have : 2 ^ 53 < 2 ^ (D + 1) := Nat.lt_of_le_of_lt hb hN2
      have := pow2_lt this
      omega
    have hlast : max (place + (L : Int) - 52) (-1074) = (D : Int) - 52 := by omega
    obtain ⟨G, hG⟩ : ∃ G, G = 2 ^ (D - 52) := ⟨_, rfl⟩
    have hGp : 0 < G := by rw [hG]; exact Nat.pow_pos (by decide)
    have hG2 : G ≤ 1024 := by
      rw [hG]
      exact Nat.le_trans (Nat.pow_le_pow_right (by decide) (show D - 52 ≤ 10 by omega)) (by decide)
    have hkept : Toward.even.cut neg (mag <<< (place - ((D : Int) - 52)).toNat) (((D : Int) - 52) - place).toNat = N / G ∨ Toward.even.cut neg (mag <<< (place - ((D : Int) - 52)).toNat) (((D : Int) - 52) - place).toNat = N / G + 1 := by
      rcases Nat.lt_or_ge 52 L with hbig | hsm
      · have e1 : (place - ((D : Int) - 52)).toNat = 0 := by omega
        have e2 : (((D : Int) - 52) - place).toNat = L - 52 := by omega
        rw [e1, e2, Nat.shiftLeft_zero]
        have hq : mag / 2 ^ (L - 52) = N / G := by
          rcases Int.le_total 0 place with hp | hp
          · obtain ⟨p, rfl⟩ := Int.eq_ofNat_of_zero_le hp
            simp only [Int.toNat_natCast, Int.toNat_neg_natCast, Nat.pow_zero, Nat.mul_one] at h
            have : G = 2 ^ (L - 52) * 2 ^ p := by rw [hG, ← Nat.pow_add]; congr 1; omega
            rw [← h, this, Nat.mul_div_mul_right _ _ (Nat.pow_pos (by decide))]
          · obtain ⟨q, rfl⟩ := Int.exists_eq_neg_ofNat hp
            simp only [Int.neg_neg, Int.toNat_natCast, Int.toNat_neg_natCast, Nat.pow_zero, Nat.mul_one] at h
            have : 2 ^ (L - 52) = G * 2 ^ q := by rw [hG, ← Nat.pow_add]; congr 1; omega
            rw [h, this, Nat.mul_div_mul_right _ _ (Nat.pow_pos (by decide))]
        rw [← hq]
        exact cut_near neg mag (L - 52) (by omega)
      · left
        have e1 : (place - ((D : Int) - 52)).toNat = 52 - L := by omega
        have e2 : (((D : Int) - 52) - place).toNat = 0 := by omega
        obtain ⟨p, rfl⟩ := Int.eq_ofNat_of_zero_le (show 0 ≤ place by omega)
        simp only [Int.toNat_natCast, Int.toNat_neg_natCast, Nat.pow_zero, Nat.mul_one] at h
        rw [e1, e2, cut_exact neg _ 0 (by rw [Nat.shiftLeft_eq]; exact Nat.mul_pos (by omega) (Nat.pow_pos (by decide))) ⟨_, (Nat.one_mul _).symm⟩, Nat.pow_zero, Nat.div_one, Nat.shiftLeft_eq]
        have : 2 ^ p = 2 ^ (52 - L) * G := by rw [hG, ← Nat.pow_add]; congr 1; omega
        rw [← h, this, ← Nat.mul_assoc, Nat.mul_div_cancel _ hGp]
    have hq1 : 4503599627370496 ≤ N / G := by
      rw [Nat.le_div_iff_mul_le hGp, hG, show (4503599627370496 : Nat) = 2 ^ 52 by decide, ← Nat.pow_add, show 52 + (D - 52) = D by omega]
      exact hN1
    have hq2 : N / G < 9007199254740992 := by
      rw [Nat.div_lt_iff_lt_mul hGp, hG, show (9007199254740992 : Nat) = 2 ^ 53 by decide, ← Nat.pow_add, show 53 + (D - 52) = D + 1 by omega]
      exact hN2
    obtain ⟨K, hK, hK1⟩ : ∃ K, Toward.even.cut neg (mag <<< (place - ((D : Int) - 52)).toNat) (((D : Int) - 52) - place).toNat = K ∧ (K = N / G ∨ K = N / G + 1) := ⟨_, rfl, hkept⟩
    have hfb : (double.fractionBits : Int) = 52 := rfl
    have e3 : ((D : Int) - 52 - (-1074)).toNat = D + 1022 := by omega
    have e4 : (D + 1022) * 4503599627370496 + K ≤ 9218868437227405312 := by omega
    have hR : ((D : Int) - 52 - double.leastPlace).toNat * double.binade + K = (D + 1022) * 4503599627370496 + K := by
      have : ∀ a b : Nat, ((D : Int) - 52 - double.leastPlace).toNat = a → double.binade = b → ((D : Int) - 52 - double.leastPlace).toNat * double.binade + K = a * b + K := fun a b h1 h2 => by rw [h1, h2]
      exact this _ _ (by rw [lp]; exact e3) b52
    rw [nearest_is neg mag place h0 ((D : Int) - 52) (by rw [hfb, lp, ← hL]; exact hlast) K hK _ hR (by rw [infR]; exact Nat.min_eq_left e4)]
    obtain ⟨m, i, hr, hm⟩ := rung_near neg D K (by omega) (by omega) (by omega)
    refine ⟨m, (D : Int) - 52 + (i : Nat), K * G, hr, ?_, ?_⟩
    · rw [show ((D : Int) - 52 + (i : Nat)).toNat = i + (D - 52) by omega, show (-((D : Int) - 52 + (i : Nat))).toNat = 0 by omega, Nat.pow_zero, Nat.mul_one, Nat.pow_add, ← Nat.mul_assoc, hm, hG]
    · have hdm := Nat.div_add_mod N G
      have hml := Nat.mod_lt N hGp
      rw [Nat.mul_comm] at hdm
      rcases hK1 with e | e
      · rw [e]; omega
      · rw [e, Nat.add_mul, Nat.one_mul]; omega
theorem write_near {d : Datum} {n : Int} (h : Val d n) (hn : n.natAbs < 9223372036854775808) : ∃ n', FRep (double.write d) n' ∧ n' ≤ n + 1024 ∧ n ≤ n' + 1024 := by
  by_cases hs : n.natAbs < 9007199254740992
  · exact ⟨n, write_val h hs, by omega, by omega⟩
  · obtain ⟨s, m, i, rfl, hv⟩ := h
    have ha : m * 2 ^ i.toNat = n.natAbs * 2 ^ (-i).toNat := by
      have := congrArg Int.natAbs hv
      rw [Int.natAbs_mul, Int.natAbs_mul, sZ_abs, Int.natAbs_pow, Int.natAbs_pow] at this
      exact this
    obtain ⟨m', i', N', hr, hv', g1, g2⟩ := nearest_near s m i n.natAbs ha hn
    have hp1 : (0 : Int) < 2 ^ i.toNat := Int.pow_pos (by decide)
    have hp2 : (0 : Int) < 2 ^ (-i).toNat := Int.pow_pos (by decide)
    have hc : (m' : Int) * 2 ^ i'.toNat = (N' : Int) * 2 ^ (-i').toNat := by exact_mod_cast hv'
    refine ⟨sZ s N', ⟨s, m', i', hr, ?_⟩, ?_⟩
    · cases s
      · simpa [sZ] using hc
      · simp only [sZ, if_true, Int.neg_mul, hc]
    · cases s with
      | true =>
        simp only [sZ, if_true] at hv ⊢
        have : n ≤ 0 := by
          rcases Int.le_total n 0 with e | e
          · exact e
          · have h1 : 0 < n * 2 ^ (-i).toNat := Int.mul_pos (by omega) hp2
            have h2 : -(m : Int) * 2 ^ i.toNat ≤ 0 := by
              rw [Int.neg_mul]
              have := Int.mul_nonneg (show (0 : Int) ≤ m by omega) (Int.le_of_lt hp1)
              omega
            omega
        omega
      | false =>
        simp only [sZ, Bool.false_eq_true, if_false] at hv ⊢
        have : 0 ≤ n := by
          rcases Int.le_total 0 n with e | e
          · exact e
          · have h1 : 0 < -n * 2 ^ (-i).toNat := Int.mul_pos (by omega) hp2
            rw [Int.neg_mul] at h1
            have := Int.mul_nonneg (show (0 : Int) ≤ m by omega) (Int.le_of_lt hp1)
            omega
        omega
section
variable {P : Program} {x y : Nat} {a b : Int} (w : World) (t : TypeId)
theorem near_add (h : FRep x a) (k : FRep y b) (hb : (a + b).natAbs < 9223372036854775808) : ∃ r n, double.add x y = some r ∧ FRep r n ∧ n ≤ a + b + 1024 ∧ a + b ≤ n + 1024 := by
  obtain ⟨d, hd, hv⟩ := h.sum k
  obtain ⟨n, h1, h2, h3⟩ := write_near hv hb
  exact ⟨_, n, by rw [Format.add, hd]; rfl, h1, h2, h3⟩
theorem near_sub (h : FRep x a) (k : FRep y b) (hb : (a - b).natAbs < 9223372036854775808) : ∃ r n, double.sub x y = some r ∧ FRep r n ∧ n ≤ a - b + 1024 ∧ a - b ≤ n + 1024 := by
  obtain ⟨d, hd, hv⟩ := Val.sum h (Val.opposite k)
  rw [← Int.sub_eq_add_neg] at hv
  obtain ⟨n, h1, h2, h3⟩ := write_near hv hb
  exact ⟨_, n, by rw [Format.sub, hd]; rfl, h1, h2, h3⟩
theorem near_mul (h : FRep x a) (k : FRep y b) (hb : (a * b).natAbs < 9223372036854775808) : ∃ r n, double.mul x y = some r ∧ FRep r n ∧ n ≤ a * b + 1024 ∧ a * b ≤ n + 1024 := by
  obtain ⟨d, hd, hv⟩ := h.product k
  obtain ⟨n, h1, h2, h3⟩ := write_near hv hb
  exact ⟨_, n, by rw [Format.mul, hd]; rfl, h1, h2, h3⟩
theorem near_cmul {x2 y2 : Nat} {a2 b2 : Int} (h : FRep x a) (k : FRep y b) (h2 : FRep x2 a2) (k2 : FRep y2 b2) (m1 : (a * b).natAbs ≤ 1152921504606846976) (m2 : (a2 * b2).natAbs ≤ 1152921504606846976) (m3 : (a * b2).natAbs ≤ 1152921504606846976)
    (m4 : (a2 * b).natAbs ≤ 1152921504606846976) :
    ∃ r r2 u v, FRep r u ∧ FRep r2 v ∧ (u ≤ a * b - a2 * b2 + 4096 ∧ a * b - a2 * b2 ≤ u + 4096) ∧ (v ≤ a * b2 + a2 * b + 4096 ∧ a * b2 + a2 * b ≤ v + 4096) ∧ ∀ w, (binOp .mul t (.complex .f64 x x2) (.complex .f64 y y2)).run P w = .ok (.complex .f64 r r2) w := by
  obtain ⟨p1, n1, g1, f1, _, _⟩ := near_mul h k (by omega)
  obtain ⟨p2, n2, g2, f2, _, _⟩ := near_mul h2 k2 (by omega)
  obtain ⟨p3, n3, g3, f3, _, _⟩ := near_mul h k2 (by omega)
  obtain ⟨p4, n4, g4, f4, _, _⟩ := near_mul h2 k (by omega)
  obtain ⟨r, u, hr, hf, _, _⟩ := near_sub f1 f2 (by omega)
  obtain ⟨r2, v, hr2, hf2, _, _⟩ := near_add f3 f4 (by omega)
  refine ⟨r, r2, u, v, hf, hf2, by omega, by omega, fun w => ?_⟩
  have em : ∀ {u v z : Nat}, double.mul u v = some z → (Op.Complex.mul u v).run P w = .ok z w := fun {u v z} hz => by simp [Op.Complex.mul, Op.Complex.arith, Op.floatArith, FloatKind.format, hz]
  have ea : (Op.Complex.add p3 p4).run P w = .ok r2 w := by simp [Op.Complex.add, Op.Complex.arith, Op.floatArith, FloatKind.format, hr2]
  have es : (Op.Complex.sub p1 p2).run P w = .ok r w := by simp [Op.Complex.sub, Op.Complex.arith, Op.floatArith, FloatKind.format, hr]
  show (Op.complexOp .mul .f64 x x2 y y2).run P w = _
  simp [Op.complexOp, Op.Complex.conv, Op.Complex.product, em g1, em g2, em g3, em g4, ea, es]
end
/-- A product one of whose four terms is 2^52 or more is out of range, however its terms are rounded. -/
theorem big_term {a a2 b b2 u v : Int} (hbig : ¬ ((a * b).natAbs < 4503599627370496 ∧ (a2 * b2).natAbs < 4503599627370496 ∧ (a * b2).natAbs < 4503599627370496 ∧ (a2 * b).natAbs < 4503599627370496))
    (h1 : u ≤ a * b - a2 * b2 + 4096 ∧ a * b - a2 * b2 ≤ u + 4096) (h2 : v ≤ a * b2 + a2 * b + 4096 ∧ a * b2 + a2 * b ≤ v + 4096) :
    (1073741824 < u.natAbs ∨ 1073741824 < v.natAbs) ∧ (1073741824 < (a * b - a2 * b2).natAbs ∨ 1073741824 < (a * b2 + a2 * b).natAbs) := by
  have hsq : (a * b - a2 * b2) * (a * b - a2 * b2) + (a * b2 + a2 * b) * (a * b2 + a2 * b) = (a * b) * (a * b) + (a2 * b2) * (a2 * b2) + (a * b2) * (a * b2) + (a2 * b) * (a2 * b) := by
    have e1 : (a * b) * (a2 * b2) = (a * b2) * (a2 * b) := by ac_rfl
    simp only [Int.sub_mul, Int.mul_sub, Int.add_mul, Int.mul_add]
    have e2 : (a2 * b2) * (a * b) = (a * b) * (a2 * b2) := Int.mul_comm _ _
    have e3 : (a2 * b) * (a * b2) = (a * b2) * (a2 * b) := Int.mul_comm _ _
    rw [e2, e3, ← e1]
    omega
  obtain ⟨P1, hP1⟩ : ∃ p, p = a * b := ⟨_, rfl⟩
  obtain ⟨P2, hP2⟩ : ∃ p, p = a2 * b2 := ⟨_, rfl⟩
  obtain ⟨P3, hP3⟩ : ∃ p, p = a * b2 := ⟨_, rfl⟩
  obtain ⟨P4, hP4⟩ : ∃ p, p = a2 * b := ⟨_, rfl⟩
  rw [← hP1, ← hP2, ← hP3, ← hP4] at hsq hbig
  rw [← hP1, ← hP2] at h1
  rw [← hP3, ← hP4] at h2
  rw [← hP1, ← hP2, ← hP3, ← hP4]
  clear hP1 hP2 hP3 hP4
  obtain ⟨R, hR⟩ : ∃ p, p = P1 - P2 := ⟨_, rfl⟩
  obtain ⟨S, hS⟩ : ∃ p, p = P3 + P4 := ⟨_, rfl⟩
  rw [← hR, ← hS] at hsq
  rw [← hR] at h1
  rw [← hS] at h2
  rw [← hR, ← hS]
  have key : 1100000000 < R.natAbs ∨ 1100000000 < S.natAbs := by
    apply Classical.byContradiction
    intro hno
    have sq : ∀ z : Int, z * z = ((z.natAbs * z.natAbs : Nat) : Int) := fun z => Int.natAbs_mul_self.symm
    have g1 : R.natAbs * R.natAbs ≤ 1100000000 * 1100000000 := Nat.mul_le_mul (by omega) (by omega)
    have g2 : S.natAbs * S.natAbs ≤ 1100000000 * 1100000000 := Nat.mul_le_mul (by omega) (by omega)
    have big : ∀ z : Int, ¬ z.natAbs < 4503599627370496 → 4503599627370496 * 4503599627370496 ≤ z.natAbs * z.natAbs := fun z h => Nat.mul_le_mul (by omega) (by omega)
    rw [sq R, sq S, sq P1, sq P2, sq P3, sq P4] at hsq
    have b1 := big P1
    have b2 := big P2
    have b3 := big P3
    have b4 := big P4
    omega
  omega
end Go.Proofs.YtoelfjhejfgkiaaDoor
